/-
  The law NoteChecks. Conditions: the table of kinds lies as the program's text lays it.
-/
import Derived.Test.YteahloddjekakaaDoorNRCn
import Derived.Test.YteahloddjekakaaDoorNChk
import Derived.Test.YteahloddjekakaaDoorNTo
import Derived.Test.YteahloddjekakaaDoorNOf
import Derived.Test.YteahloddjekakaaDoorNKno
import Derived.Test.YteahloddjekakaaDoorYQuiet
namespace Go.Proofs.YteahloddjekakaaDoor.Nt
open Go.RowKit Td

set_option maxRecDepth 100000 in
set_option maxHeartbeats 8000000 in
theorem law_checks (w : World) (hk : KinC w) (a y : Nt) (hy : Hid (y = cutN a)) (A : Option Addr) (n c : Nat) (la ml : List Rw) (hla : Hid (RR w A la)) (hn : Hid (n = la.length)) (hml : Hid (ml = cutR la)) (kd : Int) :
    Calls Tryd.prog 3 #[.agg #[.int .i64 a.k, .int .i64 a.p, .int .i64 a.d, .int .i64 a.t.n, .string a.t.b, .string a.t.s, .string a.t.i, .int .i64 a.t.q, .int .i64 a.t.p, .string a.n, .int .i64 a.a, .slice A n c, .int .i64 a.hi, .int .u64 a.lo], .int .i64 kd] w fun e w' => e = .returned (.bool true) ∧ Below w.heap.size w w' := by
  have E1 := block_new w (.cells #[.int .i64 a.k, .int .i64 a.p, .int .i64 a.d, .int .i64 a.t.n, .string a.t.b, .string a.t.s, .string a.t.i, .int .i64 a.t.q, .int .i64 a.t.p, .string a.n, .int .i64 a.a, .slice A n c, .int .i64 a.hi, .int .u64 a.lo] 27)
  have HB0 : Hid (Below w.heap.size w (w.alloc (.cells #[.int .i64 a.k, .int .i64 a.p, .int .i64 a.d, .int .i64 a.t.n, .string a.t.b, .string a.t.s, .string a.t.i, .int .i64 a.t.q, .int .i64 a.t.p, .string a.n, .int .i64 a.a, .slice A n c, .int .i64 a.hi, .int .u64 a.lo] 27))) := Lib.hid ((Below.refl _ _).alloc (Nat.le_refl _) _)
  have HLA := Lib.hid (hla.out.below HB0.out)
  have HK := Lib.hid (hk.kept HB0.out)
  clear hla hk
  go_enter Tryd.func3, Tryd.ntmps3
  go_upto_region 1 with fail
  generalize w.alloc _ = W0 at E1 HB0 HLA HK ⊢
  obtain ⟨⟨x0, x1, x2, x3, x4, x5, x6⟩, x7, x8, x9, x10, x11, x12, x13⟩ := blk14 E1
  clear E1
  have HF1 := Lib.hid (to_any W0 a y hy A n c la HLA.out hn ml hml)
  go_upto_region 2 with (go_at_call 7; (with_reducible refine HF1.out.mono ?_); rintro e w1 ⟨A1, c1, rfl, hr1, _, _, hb1⟩; have HR1 := Lib.hid hr1; have HB1 := Lib.hid (HB0.out.trans (hb1.mono HB0.out.size)); have HK1 := Lib.hid (HK.out.kept hb1); clear hr1 hb1)
  have E5 := block_new w1 (.cells #[.int .i64 y.k, .int .i64 y.p, .int .i64 y.d, .int .i64 y.t.n, .string y.t.b, .string y.t.s, .string y.t.i, .int .i64 y.t.q, .int .i64 y.t.p, .string y.n, .int .i64 y.a, .slice A1 ml.length c1, .int .i64 y.hi, .int .u64 y.lo] 33)
  have HB5 : Hid (Below w1.heap.size w1 (w1.alloc (.cells #[.int .i64 y.k, .int .i64 y.p, .int .i64 y.d, .int .i64 y.t.n, .string y.t.b, .string y.t.s, .string y.t.i, .int .i64 y.t.q, .int .i64 y.t.p, .string y.n, .int .i64 y.a, .slice A1 ml.length c1, .int .i64 y.hi, .int .u64 y.lo] 33))) := Lib.hid ((Below.refl _ _).alloc (Nat.le_refl _) _)
  have HR5 := Lib.hid (HR1.out.below HB5.out)
  have HB5w := Lib.hid (HB1.out.trans (HB5.out.mono HB1.out.size))
  have HK5 := Lib.hid (HK1.out.kept HB5.out)
  generalize w1.alloc _ = W5 at E5 HB5 HR5 HB5w HK5 ⊢
  have HE5 := Lib.hid E5
  obtain ⟨b5, hb5⟩ : ∃ b, b = w1.heap.size := ⟨_, rfl⟩
  rw [← hb5] at HE5 E5 ⊢
  obtain ⟨⟨y0, y1, y2, y3, y4, y5, y6⟩, y7, y8, y9, y10, y11, y12, y13⟩ := blk14 E5
  clear E5 hb5 HB1 HR1 HK1 HF1 HLA HB0 HK x0 x1 x2 x3 x4 x5 x6 x7 x8 x9 x10 x11 x12 x13
  have HRq : Hid (RR W5 A1 ml ∧ ml.length ≤ 40) := ⟨HR5.out, by have := hml.out; rw [this, cutR_len]; omega⟩
  obtain ⟨q, hq⟩ : ∃ q, q = ml.length := ⟨_, rfl⟩
  have HQ := Lib.hid hq
  have hq40 : q ≤ 40 := by rw [hq]; exact HRq.out.2
  have HOF : Hid (Calls Tryd.prog 8 #[.agg #[.int .i64 y.k, .int .i64 y.p, .int .i64 y.d, .int .i64 y.t.n, .string y.t.b, .string y.t.s, .string y.t.i, .int .i64 y.t.q, .int .i64 y.t.p, .string y.n, .int .i64 y.a, .slice A1 q c1, .int .i64 y.hi, .int .u64 y.lo]] W5 fun e w' => ∃ A' c', e = .returned (.agg #[.int .i64 y.k, .int .i64 y.p, .int .i64 y.d, .int .i64 y.t.n, .string y.t.b, .string y.t.s, .string y.t.i, .int .i64 y.t.q, .int .i64 y.t.p, .string y.n, .int .i64 y.a, .slice A' q c', .int .i64 y.hi, .int .u64 y.lo]) ∧ RR w' A' ml ∧ Below W5.heap.size W5 w') := by
    have h := of_any W5 y y (Lib.hid rfl) A1 q c1 ml HR5 HQ (by omega) ml (Lib.hid rfl)
    rw [← hq] at h
    exact h.mono fun _ _ ⟨A', c', h1, h2, _, _, h3⟩ => ⟨A', c', h1, h2, h3⟩
  rw [← hq] at HE5 y11 ⊢
  clear hq HR5
  go_upto_region 3 with (go_at_call 8; (with_reducible refine HOF.out.mono ?_); rintro e w2 ⟨A2, c2, rfl, hr2, hb2⟩; have HR2 := Lib.hid hr2; have HB2 := Lib.hid hb2; clear hr2 hb2)
  have E6 := block_new w2 (.cells #[.int .i64 y.k, .int .i64 y.p, .int .i64 y.d, .int .i64 y.t.n, .string y.t.b, .string y.t.s, .string y.t.i, .int .i64 y.t.q, .int .i64 y.t.p, .string y.n, .int .i64 y.a, .slice A2 q c2, .int .i64 y.hi, .int .u64 y.lo] 27)
  have HB6 : Hid (Below W5.heap.size W5 (w2.alloc (.cells #[.int .i64 y.k, .int .i64 y.p, .int .i64 y.d, .int .i64 y.t.n, .string y.t.b, .string y.t.s, .string y.t.i, .int .i64 y.t.q, .int .i64 y.t.p, .string y.n, .int .i64 y.a, .slice A2 q c2, .int .i64 y.hi, .int .u64 y.lo] 27))) := Lib.hid (HB2.out.alloc HB2.out.size _)
  have HR6 := Lib.hid (HR2.out.below ((Below.refl _ w2).alloc (Nat.le_refl _) (.cells #[.int .i64 y.k, .int .i64 y.p, .int .i64 y.d, .int .i64 y.t.n, .string y.t.b, .string y.t.s, .string y.t.i, .int .i64 y.t.q, .int .i64 y.t.p, .string y.n, .int .i64 y.a, .slice A2 q c2, .int .i64 y.hi, .int .u64 y.lo] 27)))
  generalize w2.alloc _ = W6 at E6 HB6 HR6 ⊢
  obtain ⟨b6, hb6⟩ : ∃ b, b = w2.heap.size := ⟨_, rfl⟩
  rw [← hb6] at E6 ⊢
  have X5 := blk14 (block_kept HE5.out HB6.out)
  have X6 := blk14 E6
  have HKK : Hid (∀ p : InW W6, KinC p.val) := fun p => (HK5.out.kept HB6.out).kept p.bel
  have HRA : Hid (∀ p : InW W6, RR p.val A1 ml ∧ RR p.val A2 ml) := fun p => ⟨(HRq.out.1.below HB6.out).below p.bel, HR6.out.below p.bel⟩
  have HS : Hid (SmN y ml) := by show SmN y ml; rw [hy.out, hml.out]; exact sm_cut a la
  obtain ⟨r, hr⟩ : ∃ r, r = chkN y ml := ⟨_, rfl⟩
  obtain ⟨s, hs⟩ : ∃ s, s = wordB kd := ⟨_, rfl⟩
  obtain ⟨sb, hsb⟩ : ∃ b, b = srtB ml := ⟨_, rfl⟩
  obtain ⟨mb, hmb⟩ : ∃ b, b = isM y.k := ⟨_, rfl⟩
  have s0 : ∀ p : InW W6, p.val.cell? ⟨b5, 0, none⟩ = some (.int .i64 y.k) := fun p => p.cell X5.1.1
  have s1 : ∀ p : InW W6, p.val.cell? ⟨b5, 1, none⟩ = some (.int .i64 y.p) := fun p => p.cell X5.1.2.1
  have s2 : ∀ p : InW W6, p.val.cell? ⟨b5, 2, none⟩ = some (.int .i64 y.d) := fun p => p.cell X5.1.2.2.1
  have s3 : ∀ p : InW W6, p.val.cell? ⟨b5, 3, none⟩ = some (.int .i64 y.t.n) := fun p => p.cell X5.1.2.2.2.1
  have s4 : ∀ p : InW W6, p.val.cell? ⟨b5, 4, none⟩ = some (.string y.t.b) := fun p => p.cell X5.1.2.2.2.2.1
  have s5 : ∀ p : InW W6, p.val.cell? ⟨b5, 5, none⟩ = some (.string y.t.s) := fun p => p.cell X5.1.2.2.2.2.2.1
  have s6 : ∀ p : InW W6, p.val.cell? ⟨b5, 6, none⟩ = some (.string y.t.i) := fun p => p.cell X5.1.2.2.2.2.2.2
  have s7 : ∀ p : InW W6, p.val.cell? ⟨b5, 7, none⟩ = some (.int .i64 y.t.q) := fun p => p.cell X5.2.1
  have s8 : ∀ p : InW W6, p.val.cell? ⟨b5, 8, none⟩ = some (.int .i64 y.t.p) := fun p => p.cell X5.2.2.1
  have s9 : ∀ p : InW W6, p.val.cell? ⟨b5, 9, none⟩ = some (.string y.n) := fun p => p.cell X5.2.2.2.1
  have s10 : ∀ p : InW W6, p.val.cell? ⟨b5, 10, none⟩ = some (.int .i64 y.a) := fun p => p.cell X5.2.2.2.2.1
  have s11 : ∀ p : InW W6, p.val.cell? ⟨b5, 11, none⟩ = some (.slice A1 q c1) := fun p => p.cell X5.2.2.2.2.2.1
  have s12 : ∀ p : InW W6, p.val.cell? ⟨b5, 12, none⟩ = some (.int .i64 y.hi) := fun p => p.cell X5.2.2.2.2.2.2.1
  have s13 : ∀ p : InW W6, p.val.cell? ⟨b5, 13, none⟩ = some (.int .u64 y.lo) := fun p => p.cell X5.2.2.2.2.2.2.2
  have r0 : ∀ p : InW W6, p.val.cell? ⟨b6, 0, none⟩ = some (.int .i64 y.k) := fun p => p.cell X6.1.1
  have r1 : ∀ p : InW W6, p.val.cell? ⟨b6, 1, none⟩ = some (.int .i64 y.p) := fun p => p.cell X6.1.2.1
  have r2 : ∀ p : InW W6, p.val.cell? ⟨b6, 2, none⟩ = some (.int .i64 y.d) := fun p => p.cell X6.1.2.2.1
  have r3 : ∀ p : InW W6, p.val.cell? ⟨b6, 3, none⟩ = some (.int .i64 y.t.n) := fun p => p.cell X6.1.2.2.2.1
  have r4 : ∀ p : InW W6, p.val.cell? ⟨b6, 4, none⟩ = some (.string y.t.b) := fun p => p.cell X6.1.2.2.2.2.1
  have r5 : ∀ p : InW W6, p.val.cell? ⟨b6, 5, none⟩ = some (.string y.t.s) := fun p => p.cell X6.1.2.2.2.2.2.1
  have r6 : ∀ p : InW W6, p.val.cell? ⟨b6, 6, none⟩ = some (.string y.t.i) := fun p => p.cell X6.1.2.2.2.2.2.2
  have r7 : ∀ p : InW W6, p.val.cell? ⟨b6, 7, none⟩ = some (.int .i64 y.t.q) := fun p => p.cell X6.2.1
  have r8 : ∀ p : InW W6, p.val.cell? ⟨b6, 8, none⟩ = some (.int .i64 y.t.p) := fun p => p.cell X6.2.2.1
  have r9 : ∀ p : InW W6, p.val.cell? ⟨b6, 9, none⟩ = some (.string y.n) := fun p => p.cell X6.2.2.2.1
  have r10 : ∀ p : InW W6, p.val.cell? ⟨b6, 10, none⟩ = some (.int .i64 y.a) := fun p => p.cell X6.2.2.2.2.1
  have r11 : ∀ p : InW W6, p.val.cell? ⟨b6, 11, none⟩ = some (.slice A2 q c2) := fun p => p.cell X6.2.2.2.2.2.1
  have r12 : ∀ p : InW W6, p.val.cell? ⟨b6, 12, none⟩ = some (.int .i64 y.hi) := fun p => p.cell X6.2.2.2.2.2.2.1
  have r13 : ∀ p : InW W6, p.val.cell? ⟨b6, 13, none⟩ = some (.int .u64 y.lo) := fun p => p.cell X6.2.2.2.2.2.2.2
  have C0 : Hid (∀ p : InW W6, Calls Tryd.prog 9 #[] p.val fun e w' => e = .returned (.bool true) ∧ ∃ q : InW W6, w' = q.val) := fun p => calls_in (known_any p.val (HKK.out p))
  have C1 : Hid (∀ p : InW W6, Calls Tryd.prog 10 #[.agg #[.int .i64 y.k, .int .i64 y.p, .int .i64 y.d, .int .i64 y.t.n, .string y.t.b, .string y.t.s, .string y.t.i, .int .i64 y.t.q, .int .i64 y.t.p, .string y.n, .int .i64 y.a, .slice A1 q c1, .int .i64 y.hi, .int .u64 y.lo]] p.val fun e w' => e = .returned (.int .i64 r) ∧ ∃ q : InW W6, w' = q.val) := fun p => calls_in (check_any p.val (HKK.out p) y A1 q c1 ml (Lib.hid (HRA.out p).1) HQ HS (Lib.hid hr))
  have C2 : Hid (∀ p : InW W6, Calls Tryd.prog 11 #[.agg #[.int .i64 y.k, .int .i64 y.p, .int .i64 y.d, .int .i64 y.t.n, .string y.t.b, .string y.t.s, .string y.t.i, .int .i64 y.t.q, .int .i64 y.t.p, .string y.n, .int .i64 y.a, .slice A2 q c2, .int .i64 y.hi, .int .u64 y.lo]] p.val fun e w' => e = .returned (.int .i64 r) ∧ ∃ q : InW W6, w' = q.val) := fun p => calls_in (rcheck_all p.val y A2 q c2 ml (Lib.hid (HRA.out p).2) HQ HS (Lib.hid hr))
  have C3 : Hid (∀ p : InW W6, Calls Tryd.prog 12 #[.agg #[.int .i64 y.k, .int .i64 y.p, .int .i64 y.d, .int .i64 y.t.n, .string y.t.b, .string y.t.s, .string y.t.i, .int .i64 y.t.q, .int .i64 y.t.p, .string y.n, .int .i64 y.a, .slice A1 q c1, .int .i64 y.hi, .int .u64 y.lo]] p.val fun e w' => e = .returned (.bool mb) ∧ ∃ q : InW W6, w' = q.val) := fun p => calls_in (message_any p.val y A1 q c1 (Lib.hid hmb))
  have C4 : Hid (∀ p : InW W6, Calls Tryd.prog 13 #[.int .i64 kd] p.val fun e w' => e = .returned (.string s) ∧ ∃ q : InW W6, w' = q.val) := fun p => (word_any p.val (HKK.out p) kd (Lib.hid hs)).mono fun _ _ ⟨h1, h2⟩ => ⟨h1, p, h2.symm⟩
  have C5 : Hid (∀ p : InW W6, Calls Tryd.prog 14 #[.int .i64 kd] p.val fun e w' => e = .returned (.string s) ∧ ∃ q : InW W6, w' = q.val) := fun p => calls_in (rword_any p.val kd (Lib.hid hs))
  have C6 : Hid (∀ p : InW W6, Calls Tryd.prog 15 #[.slice A1 q c1] p.val fun e w' => e = .returned (.bool sb) ∧ ∃ q : InW W6, w' = q.val) := fun p => calls_in (sortedP p.val A1 q c1 ml (Lib.hid (HRA.out p).1) HQ (by omega) (Lib.hid hsb))
  have C7 : Hid (∀ p : InW W6, Calls Tryd.prog 16 #[.slice A2 q c2] p.val fun e w' => e = .returned (.bool sb) ∧ ∃ q : InW W6, w' = q.val) := fun p => calls_in (sortedF p.val A2 q c2 ml (Lib.hid (HRA.out p).2) HQ (by omega) (Lib.hid hsb))
  have e1 : (s.toList == s.toList) = true := by simp
  have e2 : (r == r) = true := by simp
  have e3 : (sb == sb) = true := by simp
  have HF : Hid (∀ p : InW W6, Below w.heap.size w p.val) := fun p => HB5w.out.trans ((HB6.out.trans (p.bel.mono HB6.out.size)).mono HB5w.out.size)
  have HM := Lib.hid hmb
  clear hr hs hsb hmb hb6 X5 X6 E6 HB6 HR6 HKK HRA HS HOF HB2 HR2 y0 y1 y2 y3 y4 y5 y6 y7 y8 y9 y10 y11 y12 y13
  rcases (show ¬ (9 ≤ y.k) ∨ (9 ≤ y.k ∧ y.k ≤ 12) ∨ (9 ≤ y.k ∧ ¬ y.k ≤ 12) by omega) with m1 | ⟨m1, m2⟩ | ⟨m1, m2⟩
  · have d1 : decide (9 ≤ y.k) = false := decide_eq_false m1
    obtain rfl : mb = false := by rw [HM.out]; unfold isM; rw [d1]; rfl
    clear HM
    refine wp_region_below (W := W6) (by kernel_rfl) (by kernel_rfl) (Below.refl _ _) ?_
    repeat (go_big_quiet_step ((first | (go_at_call 9; exact C0.out _) | (go_at_call 10; exact C1.out _) | (go_at_call 11; exact C2.out _) | (go_at_call 12; exact C3.out _) | (go_at_call 13; exact C4.out _) | (go_at_call 14; exact C5.out _) | (go_at_call 15; exact C6.out _) | (go_at_call 16; exact C7.out _))))
    refine wpQuiet_nil ?_
    rintro _ ⟨pq, rfl⟩
    have HP := Lib.hid (HF.out pq)
    go_wp2
    go_ret
    exact ⟨rfl, HP.out⟩
  · have d1 : decide (9 ≤ y.k) = true := decide_eq_true m1
    have d2 : decide (y.k ≤ 12) = true := decide_eq_true m2
    obtain rfl : mb = true := by rw [HM.out]; unfold isM; rw [d1, d2]; rfl
    clear HM
    refine wp_region_below (W := W6) (by kernel_rfl) (by kernel_rfl) (Below.refl _ _) ?_
    repeat (go_big_quiet_step ((first | (go_at_call 9; exact C0.out _) | (go_at_call 10; exact C1.out _) | (go_at_call 11; exact C2.out _) | (go_at_call 12; exact C3.out _) | (go_at_call 13; exact C4.out _) | (go_at_call 14; exact C5.out _) | (go_at_call 15; exact C6.out _) | (go_at_call 16; exact C7.out _))))
    refine wpQuiet_nil ?_
    rintro _ ⟨pq, rfl⟩
    have HP := Lib.hid (HF.out pq)
    go_wp2
    go_ret
    exact ⟨rfl, HP.out⟩
  · have d1 : decide (9 ≤ y.k) = true := decide_eq_true m1
    have d2 : decide (y.k ≤ 12) = false := decide_eq_false m2
    obtain rfl : mb = false := by rw [HM.out]; unfold isM; rw [d1, d2]; rfl
    clear HM
    refine wp_region_below (W := W6) (by kernel_rfl) (by kernel_rfl) (Below.refl _ _) ?_
    repeat (go_big_quiet_step ((first | (go_at_call 9; exact C0.out _) | (go_at_call 10; exact C1.out _) | (go_at_call 11; exact C2.out _) | (go_at_call 12; exact C3.out _) | (go_at_call 13; exact C4.out _) | (go_at_call 14; exact C5.out _) | (go_at_call 15; exact C6.out _) | (go_at_call 16; exact C7.out _))))
    refine wpQuiet_nil ?_
    rintro _ ⟨pq, rfl⟩
    have HP := Lib.hid (HF.out pq)
    go_wp2
    go_ret
    exact ⟨rfl, HP.out⟩
end Go.Proofs.YteahloddjekakaaDoor.Nt
