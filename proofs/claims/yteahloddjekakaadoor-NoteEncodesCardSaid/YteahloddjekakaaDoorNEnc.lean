/-
  Encode of a right note of whatever kind. Conditions: the table of kinds lies as the program's text lays it; Check has found nothing; the bytes have room.
-/
import Derived.Test.YteahloddjekakaaDoorNM11
namespace Go.Proofs.YteahloddjekakaaDoor.Nt
open Go.RowKit Td

def pt : Bool → List Int → List Int
  | true, l => l
  | false, _ => []
/-- A note's bytes, with whatever parts. -/
def encQ (q0 q1 q2 q3 q4 q5 q6 : Bool) (m : Nat) (x : Nt) (dn lo : Nat) (lr : List Rw) : List Int :=
  [(m : Int)] ++ pt q0 [x.p] ++ pt q1 (Oc.grp dn) ++ pt q2 (trB x.t) ++ pt q3 (tx x.n) ++ pt q4 (nb x.a) ++ pt q5 (rowsB lr) ++ pt q6 (nb x.hi ++ Oc.wordF 8 lo)
/-- A note's bytes. -/
def encB (m : Nat) (x : Nt) (dn lo : Nat) (lr : List Rw) : List Int := encQ (kp m) (kd m) (kt m) (kn m) (ka m) (kr m) (kc m) m x dn lo lr

set_option maxRecDepth 100000 in
set_option maxHeartbeats 16000000 in
theorem enc_q (w : World) (hk : KinC w) (x : Nt) (A : Option Addr) (n c : Nat) (lr : List Rw) (m dn lo : Nat) (hm : x.k = (m : Int)) (h1 : 1 ≤ m) (h2 : m ≤ 12) (q0 q1 q2 q3 q4 q5 q6 : Bool) (g0 : kp m = q0) (g1 : kd m = q1) (g2 : kt m = q2) (g3 : kn m = q3) (g4 : ka m = q4) (g5 : kr m = q5) (g6 : kc m = q6)
    (HC : Hid (∀ W, Below w.heap.size w W → Calls Tryd.prog 10 #[.agg #[.int .i64 x.k, .int .i64 x.p, .int .i64 x.d, .int .i64 x.t.n, .string x.t.b, .string x.t.s, .string x.t.i, .int .i64 x.t.q, .int .i64 x.t.p, .string x.n, .int .i64 x.a, .slice A n c, .int .i64 x.hi, .int .u64 x.lo]] W fun e w' => e = .returned (.int .i64 0) ∧ Below W.heap.size W w'))
    (hp0 : 0 ≤ x.p) (hp2 : x.p < 256) (hd : x.d = (dn : Int)) (hd2 : dn < 9223372036854775808) (ht1 : I64 x.t.n) (ht2 : I64 x.t.q) (ht3 : I64 x.t.p) (ha : I64 x.a) (hh : I64 x.hi) (hlo : x.lo = (lo : Int)) (hlo2 : lo < 18446744073709551616)
    (hl : RR w A lr) (hn : lr.length = n) (hn4 : n < 1000) (hi : ∀ r ∈ lr, I64 r.2) (hr : (encQ q0 q1 q2 q3 q4 q5 q6 m x dn lo lr).length ≤ 1048576) :
    Calls Tryd.prog 17 #[.agg #[.int .i64 x.k, .int .i64 x.p, .int .i64 x.d, .int .i64 x.t.n, .string x.t.b, .string x.t.s, .string x.t.i, .int .i64 x.t.q, .int .i64 x.t.p, .string x.n, .int .i64 x.a, .slice A n c, .int .i64 x.hi, .int .u64 x.lo]] w fun e w' => ∃ A' cap, e = .returned (.tuple #[.slice A' (encQ q0 q1 q2 q3 q4 q5 q6 m x dn lo lr).length cap, .int .i64 0]) ∧ Oc.BAt w' (.slice A' (encQ q0 q1 q2 q3 q4 q5 q6 m x dn lo lr).length cap) (encQ q0 q1 q2 q3 q4 q5 q6 m x dn lo lr) ∧ Below w.heap.size w w' := by
  obtain ⟨e0, he0⟩ : ∃ e, e = [(m : Int)] := ⟨_, rfl⟩
  obtain ⟨e1, he1⟩ : ∃ e, e = e0 ++ pt q0 [x.p] := ⟨_, rfl⟩
  obtain ⟨e2, he2⟩ : ∃ e, e = e1 ++ pt q1 (Oc.grp dn) := ⟨_, rfl⟩
  obtain ⟨e3, he3⟩ : ∃ e, e = e2 ++ pt q2 (trB x.t) := ⟨_, rfl⟩
  obtain ⟨e4, he4⟩ : ∃ e, e = e3 ++ pt q3 (tx x.n) := ⟨_, rfl⟩
  obtain ⟨e5, he5⟩ : ∃ e, e = e4 ++ pt q4 (nb x.a) := ⟨_, rfl⟩
  obtain ⟨e6, he6⟩ : ∃ e, e = e5 ++ pt q5 (rowsB lr) := ⟨_, rfl⟩
  obtain ⟨e7, he7⟩ : ∃ e, e = e6 ++ pt q6 (nb x.hi ++ Oc.wordF 8 lo) := ⟨_, rfl⟩
  have hall : encQ q0 q1 q2 q3 q4 q5 q6 m x dn lo lr = e7 := by rw [he7, he6, he5, he4, he3, he2, he1, he0]; rfl
  rw [hall] at hr ⊢
  have R7 : Hid ((e6 ++ pt q6 (nb x.hi ++ Oc.wordF 8 lo)).length ≤ 1048576) := by show _ ≤ _; rw [← he7]; exact hr
  have r6 : e6.length ≤ 1048576 := by have := R7.out; rw [List.length_append] at this; omega
  have R6 : Hid ((e5 ++ pt q5 (rowsB lr)).length ≤ 1048576) := by show _ ≤ _; rw [← he6]; exact r6
  have r5 : e5.length ≤ 1048576 := by have := R6.out; rw [List.length_append] at this; omega
  have R5 : Hid ((e4 ++ pt q4 (nb x.a)).length ≤ 1048576) := by show _ ≤ _; rw [← he5]; exact r5
  have r4 : e4.length ≤ 1048576 := by have := R5.out; rw [List.length_append] at this; omega
  have R4 : Hid ((e3 ++ pt q3 (tx x.n)).length ≤ 1048576) := by show _ ≤ _; rw [← he4]; exact r4
  have r3 : e3.length ≤ 1048576 := by have := R4.out; rw [List.length_append] at this; omega
  have R3 : Hid ((e2 ++ pt q2 (trB x.t)).length ≤ 1048576) := by show _ ≤ _; rw [← he3]; exact r3
  have r2 : e2.length ≤ 1048576 := by have := R3.out; rw [List.length_append] at this; omega
  have R2 : Hid ((e1 ++ pt q1 (Oc.grp dn)).length ≤ 1048576) := by show _ ≤ _; rw [← he2]; exact r2
  have r1 : e1.length ≤ 1048576 := by have := R2.out; rw [List.length_append] at this; omega
  have R1 : Hid ((e0 ++ pt q0 [x.p]).length ≤ 1048576) := by show _ ≤ _; rw [← he1]; exact r1
  clear hall hr r1 r2 r3 r4 r5 r6
  have HE0 := Lib.hid he0
  have HE1 := Lib.hid he1
  have HE2 := Lib.hid he2
  have HE3 := Lib.hid he3
  have HE4 := Lib.hid he4
  have HE5 := Lib.hid he5
  have HE6 := Lib.hid he6
  have HE7 := Lib.hid he7
  clear he0 he1 he2 he3 he4 he5 he6 he7
  have E1 := block_new w (.cells #[.int .i64 x.k, .int .i64 x.p, .int .i64 x.d, .int .i64 x.t.n, .string x.t.b, .string x.t.s, .string x.t.i, .int .i64 x.t.q, .int .i64 x.t.p, .string x.n, .int .i64 x.a, .slice A n c, .int .i64 x.hi, .int .u64 x.lo] 33)
  have hB0 : Below w.heap.size w (w.alloc (.cells #[.int .i64 x.k, .int .i64 x.p, .int .i64 x.d, .int .i64 x.t.n, .string x.t.b, .string x.t.s, .string x.t.i, .int .i64 x.t.q, .int .i64 x.t.p, .string x.n, .int .i64 x.a, .slice A n c, .int .i64 x.hi, .int .u64 x.lo] 33)) := (Below.refl _ _).alloc (Nat.le_refl _) _
  have HB0 := Lib.hid hB0
  have HK := Lib.hid hk
  have HC1 := Lib.hid (HC.out _ hB0)
  have HM := Lib.hid hm
  have HM2 := Lib.hid h2
  have HD := Lib.hid hd
  have HD2 := Lib.hid hd2
  have HT1 := Lib.hid ht1
  have HT2 := Lib.hid ht2
  have HT3 := Lib.hid ht3
  have HA := Lib.hid ha
  have HH := Lib.hid hh
  have HLO := Lib.hid hlo
  have HLO2 := Lib.hid hlo2
  have HL := Lib.hid hl
  have HN := Lib.hid hn
  have HN4 := Lib.hid hn4
  have HI := Lib.hid hi
  have hu : IntKind.u8.wrap (m : Int) = (m : Int) := by unfold IntKind.wrap; simp [IntKind.bits, IntKind.signed]; omega
  have hm13 : (m : Int) < 13 := by omega
  have hm0 : (0 : Int) ≤ (m : Int) := by omega
  have hup : IntKind.u8.wrap x.p = x.p := by unfold IntKind.wrap; simp [IntKind.bits, IntKind.signed]; omega
  have HG : Hid (kp m = q0 ∧ kd m = q1 ∧ kt m = q2 ∧ kn m = q3 ∧ ka m = q4 ∧ kr m = q5 ∧ kc m = q6) := ⟨g0, g1, g2, g3, g4, g5, g6⟩
  clear hB0 hk hm h1 h2 HC g0 g1 g2 g3 g4 g5 g6 hd hd2 ht1 ht2 ht3 ha hh hlo hlo2 hl hn hn4 hi
  go_enter Tryd.func17, Tryd.ntmps17
  go_upto_region 1 with fail
  generalize w.alloc _ = W0 at E1 HB0 HC1 ⊢
  have HX1 := Lib.hid E1
  obtain ⟨⟨x0, x1, x2, x3, x4, x5, x6⟩, x7, x8, x9, x10, x11, x12, x13⟩ := blk14 E1
  clear E1
  go_upto_region 4 with (go_at_call 10; (with_reducible refine HC1.out.mono ?_); rintro e w1 ⟨rfl, hb⟩; have HB1 := Lib.hid (HB0.out.trans (hb.mono HB0.out.size)); have HX2 := Lib.hid (block_kept HX1.out hb); clear hb)
  clear x0 x1 x2 x3 x4 x5 x6 x7 x8 x9 x10 x11 x12 x13
  have y0 : (w1.alloc (.cells #[.int .i64 0, .slice none 0 0] 77)).cell? ⟨w.heap.size, 0, none⟩ = some (.int .i64 (m : Int)) := by rw [← HM.out]; exact (blk14 (block_old HX2.out _)).1.1
  have HBy := Lib.hid (Oc.byte_any (w1.alloc (.cells #[.int .i64 0, .slice none 0 0] 77)) w1.heap.size 0 (m : Int) [] _ (wr_new w1) (fun _ => by simp))
  go_upto_region 5 with (go_at_call 38; (with_reducible refine HBy.out.mono ?_); rintro e w2 ⟨rfl, ht⟩; have HT := Lib.hid ht; clear ht)
  rw [Oc.addB_no, List.nil_append, ← HE0.out] at HT
  obtain ⟨hB2, hS⟩ := enc_first HX2.out HB1.out HT.out
  obtain ⟨v3, S3⟩ := hS #[.bool q0, .bool q1, .bool q2, .bool q3, .bool q4, .bool q5, .bool q6] 62
  have HS := Lib.hid S3
  have hkw := (HK.out.below (HB1.out.trans (hB2.mono HB1.out.size)) HK.out.1).2 m HM2.out
  obtain ⟨g0, g1, g2, g3, g4, g5, g6⟩ := HG.out
  rw [g0, g1, g2, g3, g4, g5, g6] at hkw
  obtain ⟨_, k1, k2, k3, k4, k5, k6, k7⟩ := hkw
  have k2' : w2.cell? ⟨0, m * 8 + 1 + 1, none⟩ = some (.bool q1) := k2
  have k3' : w2.cell? ⟨0, m * 8 + 1 + 2, none⟩ = some (.bool q2) := k3
  have k4' : w2.cell? ⟨0, m * 8 + 1 + 3, none⟩ = some (.bool q3) := k4
  have k5' : w2.cell? ⟨0, m * 8 + 1 + 4, none⟩ = some (.bool q4) := k5
  have k6' : w2.cell? ⟨0, m * 8 + 1 + 5, none⟩ = some (.bool q5) := k6
  have k7' : w2.cell? ⟨0, m * 8 + 1 + 6, none⟩ = some (.bool q6) := k7
  have z0 : w2.cell? ⟨w.heap.size, 0, none⟩ = some (.int .i64 (m : Int)) := by rw [← HM.out]; exact (blk14 (block_kept HX2.out hB2)).1.1
  clear S3 hS hB2 k2 k3 k4 k5 k6 k7 g0 g1 g2 g3 g4 g5 g6 HBy y0 HX1 HX2
  go_upto_region 6 with fail
  clear k1 k2' k3' k4' k5' k6' k7' z0
  obtain ⟨ab, hab⟩ : ∃ ab, ab = w2.heap.size := ⟨_, rfl⟩
  rw [← hab] at HS ⊢
  generalize w2.alloc _ = wc at HS ⊢
  clear hab HT HB1 hu hm13 hm0 HC1 HK HM HM2 HG
  obtain ⟨nbk, hnb⟩ : ∃ nbk, nbk = w.heap.size := ⟨_, rfl⟩
  rw [← hnb] at HS ⊢
  obtain ⟨bb, hbb⟩ : ∃ bb, bb = w1.heap.size := ⟨_, rfl⟩
  rw [← hbb] at HS ⊢
  clear hnb hbb
  obtain ⟨a0, a1, a2, a3, a4, a5, a6⟩ := blk7 HS.out.h2
  obtain ⟨⟨x0, x1, x2, x3, x4, x5, x6⟩, x7, x8, x9, x10, x11, x12, x13⟩ := blk14 HS.out.h1
  go_upto_if 24 with (fail)
  go_cut [] from 24 to 29 (fun wx => Hid (∃ v', EncS w bb nbk ab (.cells #[.int .i64 x.k, .int .i64 x.p, .int .i64 x.d, .int .i64 x.t.n, .string x.t.b, .string x.t.s, .string x.t.i, .int .i64 x.t.q, .int .i64 x.t.p, .string x.n, .int .i64 x.a, .slice A n c, .int .i64 x.hi, .int .u64 x.lo] 33 (0, 0)) (.cells #[.bool q0, .bool q1, .bool q2, .bool q3, .bool q4, .bool q5, .bool q6] 62 (0, 0)) e1 v' wx))
  case first =>
    cases q0
    · have HQ : Hid (e1 = e0) := by show _ = _; rw [HE1.out]; exact List.append_nil _
      go_wp2_with fail
      go_meet
      exact ⟨_, by rw [HQ.out]; exact HS.out⟩
    · have HQ : Hid (e0 ++ [x.p] = e1) := by show _ = _; rw [HE1.out]; rfl
      have HCx := Lib.hid (Oc.byte_any wc bb 0 x.p e0 _ HS.out.wr (fun _ => by have := R1.out; rw [List.length_append] at this; exact this))
      rw [Oc.addB_no] at HCx
      rw [HQ.out] at HCx
      go_wp2_with (go_at_call 38; (with_reducible refine HCx.out.mono ?_); rintro e w4 ⟨rfl, ht⟩; have HT4 := Lib.hid ht; clear ht)
      go_meet
      exact HS.out.step HT4.out
  case rest =>
  obtain ⟨v4, S4⟩ := hcut.out
  have HS := Lib.hid S4
  clear hcut S4 a0 a1 a2 a3 a4 a5 a6 x0 x1 x2 x3 x4 x5 x6 x7 x8 x9 x10 x11 x12 x13
  obtain ⟨a0, a1, a2, a3, a4, a5, a6⟩ := blk7 HS.out.h2
  obtain ⟨⟨x0, x1, x2, x3, x4, x5, x6⟩, x7, x8, x9, x10, x11, x12, x13⟩ := blk14 HS.out.h1
  go_upto_if 31 with (fail)
  go_cut [] from 31 to 35 (fun wx => Hid (∃ v', EncS w bb nbk ab (.cells #[.int .i64 x.k, .int .i64 x.p, .int .i64 x.d, .int .i64 x.t.n, .string x.t.b, .string x.t.s, .string x.t.i, .int .i64 x.t.q, .int .i64 x.t.p, .string x.n, .int .i64 x.a, .slice A n c, .int .i64 x.hi, .int .u64 x.lo] 33 (0, 0)) (.cells #[.bool q0, .bool q1, .bool q2, .bool q3, .bool q4, .bool q5, .bool q6] 62 (0, 0)) e2 v' wx))
  case first =>
    cases q1
    · have HQ : Hid (e2 = e1) := by show _ = _; rw [HE2.out]; exact List.append_nil _
      go_wp2_with fail
      go_meet
      exact ⟨_, by rw [HQ.out]; exact HS.out⟩
    · have HQ : Hid (e1 ++ (Oc.grp dn) = e2) := by show _ = _; rw [HE2.out]; rfl
      have HCx := Lib.hid (show Calls Tryd.prog 39 #[.pointer (some ⟨bb, 0, none⟩), .int .i64 x.d] wc _ from HD.out ▸ Oc.count_any wc bb 0 dn e1 _ HS.out.wr HD2.out (fun _ => by have := R2.out; rw [List.length_append] at this; exact this))
      rw [Oc.addB_no] at HCx
      rw [HQ.out] at HCx
      go_wp2_with (go_at_call 39; (with_reducible refine HCx.out.mono ?_); rintro e w4 ⟨rfl, ht⟩; have HT4 := Lib.hid ht; clear ht)
      go_meet
      exact HS.out.step HT4.out
  case rest =>
  obtain ⟨v5, S5⟩ := hcut.out
  have HS := Lib.hid S5
  clear hcut S5 a0 a1 a2 a3 a4 a5 a6 x0 x1 x2 x3 x4 x5 x6 x7 x8 x9 x10 x11 x12 x13
  obtain ⟨a0, a1, a2, a3, a4, a5, a6⟩ := blk7 HS.out.h2
  obtain ⟨⟨x0, x1, x2, x3, x4, x5, x6⟩, x7, x8, x9, x10, x11, x12, x13⟩ := blk14 HS.out.h1
  go_upto_if 37 with (fail)
  go_cut [] from 37 to 41 (fun wx => Hid (∃ v', EncS w bb nbk ab (.cells #[.int .i64 x.k, .int .i64 x.p, .int .i64 x.d, .int .i64 x.t.n, .string x.t.b, .string x.t.s, .string x.t.i, .int .i64 x.t.q, .int .i64 x.t.p, .string x.n, .int .i64 x.a, .slice A n c, .int .i64 x.hi, .int .u64 x.lo] 33 (0, 0)) (.cells #[.bool q0, .bool q1, .bool q2, .bool q3, .bool q4, .bool q5, .bool q6] 62 (0, 0)) e3 v' wx))
  case first =>
    cases q2
    · have HQ : Hid (e3 = e2) := by show _ = _; rw [HE3.out]; exact List.append_nil _
      go_wp2_with fail
      go_meet
      exact ⟨_, by rw [HQ.out]; exact HS.out⟩
    · have HQ : Hid (e2 ++ (trB x.t) = e3) := by show _ = _; rw [HE3.out]; rfl
      have HCx := Lib.hid (tput_any wc bb x.t e2 _ HS.out.wr HT1.out HT2.out HT3.out (by have := R3.out; rw [List.length_append] at this; exact this))
      rw [HQ.out] at HCx
      go_wp2_with (go_at_call 40; (with_reducible refine HCx.out.mono ?_); rintro e w4 ⟨rfl, ht⟩; have HT4 := Lib.hid ht; clear ht)
      go_meet
      exact HS.out.step HT4.out
  case rest =>
  obtain ⟨v6, S6⟩ := hcut.out
  have HS := Lib.hid S6
  clear hcut S6 a0 a1 a2 a3 a4 a5 a6 x0 x1 x2 x3 x4 x5 x6 x7 x8 x9 x10 x11 x12 x13
  obtain ⟨a0, a1, a2, a3, a4, a5, a6⟩ := blk7 HS.out.h2
  obtain ⟨⟨x0, x1, x2, x3, x4, x5, x6⟩, x7, x8, x9, x10, x11, x12, x13⟩ := blk14 HS.out.h1
  go_upto_if 43 with (fail)
  go_cut [] from 43 to 48 (fun wx => Hid (∃ v', EncS w bb nbk ab (.cells #[.int .i64 x.k, .int .i64 x.p, .int .i64 x.d, .int .i64 x.t.n, .string x.t.b, .string x.t.s, .string x.t.i, .int .i64 x.t.q, .int .i64 x.t.p, .string x.n, .int .i64 x.a, .slice A n c, .int .i64 x.hi, .int .u64 x.lo] 33 (0, 0)) (.cells #[.bool q0, .bool q1, .bool q2, .bool q3, .bool q4, .bool q5, .bool q6] 62 (0, 0)) e4 v' wx))
  case first =>
    cases q3
    · have HQ : Hid (e4 = e3) := by show _ = _; rw [HE4.out]; exact List.append_nil _
      go_wp2_with fail
      go_meet
      exact ⟨_, by rw [HQ.out]; exact HS.out⟩
    · have HQ : Hid (e3 ++ (tx x.n) = e4) := by show _ = _; rw [HE4.out]; rfl
      have HS2 := Lib.hid (HS.out.kept ((Below.refl _ _).alloc (Nat.le_refl _) (.cells #[.string x.n] 9)))
      have HX := Lib.hid (TxS.new1 HS.out.wr x.n 9)
      have ht1 : txs [x.n] = tx x.n := by simp [txs]
      have HCx := Lib.hid (texts_any _ bb wc.heap.size 1 [x.n] e3 _ HS2.out.wr rfl HX.out.at_ HX.out.lt HX.out.n1 HX.out.n2 (by rw [ht1]; have := R4.out; rw [List.length_append] at this; exact this) (by omega))
      rw [ht1] at HCx
      clear ht1
      rw [HQ.out] at HCx
      go_wp2_with (go_at_call 41; (with_reducible refine HCx.out.mono ?_); rintro e w4 ⟨rfl, ht⟩; have HT4 := Lib.hid ht; clear ht)
      go_meet
      exact HS2.out.step HT4.out
  case rest =>
  obtain ⟨v7, S7⟩ := hcut.out
  have HS := Lib.hid S7
  clear hcut S7 a0 a1 a2 a3 a4 a5 a6 x0 x1 x2 x3 x4 x5 x6 x7 x8 x9 x10 x11 x12 x13
  obtain ⟨a0, a1, a2, a3, a4, a5, a6⟩ := blk7 HS.out.h2
  obtain ⟨⟨x0, x1, x2, x3, x4, x5, x6⟩, x7, x8, x9, x10, x11, x12, x13⟩ := blk14 HS.out.h1
  go_upto_if 50 with (fail)
  go_cut [] from 50 to 54 (fun wx => Hid (∃ v', EncS w bb nbk ab (.cells #[.int .i64 x.k, .int .i64 x.p, .int .i64 x.d, .int .i64 x.t.n, .string x.t.b, .string x.t.s, .string x.t.i, .int .i64 x.t.q, .int .i64 x.t.p, .string x.n, .int .i64 x.a, .slice A n c, .int .i64 x.hi, .int .u64 x.lo] 33 (0, 0)) (.cells #[.bool q0, .bool q1, .bool q2, .bool q3, .bool q4, .bool q5, .bool q6] 62 (0, 0)) e5 v' wx))
  case first =>
    cases q4
    · have HQ : Hid (e5 = e4) := by show _ = _; rw [HE5.out]; exact List.append_nil _
      go_wp2_with fail
      go_meet
      exact ⟨_, by rw [HQ.out]; exact HS.out⟩
    · have HQ : Hid (e4 ++ (Oc.grp (Oc.fold x.a)) = e5) := by show _ = _; rw [HE5.out]; rfl
      have HCx := Lib.hid (Oc.number_any wc bb 0 x.a e4 _ HS.out.wr HA.out.1 HA.out.2 (fun _ => by have := R5.out; rw [List.length_append] at this; exact this))
      rw [Oc.addB_no] at HCx
      rw [HQ.out] at HCx
      go_wp2_with (go_at_call 42; (with_reducible refine HCx.out.mono ?_); rintro e w4 ⟨rfl, ht⟩; have HT4 := Lib.hid ht; clear ht)
      go_meet
      exact HS.out.step HT4.out
  case rest =>
  obtain ⟨v8, S8⟩ := hcut.out
  have HS := Lib.hid S8
  clear hcut S8 a0 a1 a2 a3 a4 a5 a6 x0 x1 x2 x3 x4 x5 x6 x7 x8 x9 x10 x11 x12 x13
  obtain ⟨a0, a1, a2, a3, a4, a5, a6⟩ := blk7 HS.out.h2
  obtain ⟨⟨x0, x1, x2, x3, x4, x5, x6⟩, x7, x8, x9, x10, x11, x12, x13⟩ := blk14 HS.out.h1
  go_upto_if 56 with (fail)
  go_cut [] from 56 to 60 (fun wx => Hid (∃ v', EncS w bb nbk ab (.cells #[.int .i64 x.k, .int .i64 x.p, .int .i64 x.d, .int .i64 x.t.n, .string x.t.b, .string x.t.s, .string x.t.i, .int .i64 x.t.q, .int .i64 x.t.p, .string x.n, .int .i64 x.a, .slice A n c, .int .i64 x.hi, .int .u64 x.lo] 33 (0, 0)) (.cells #[.bool q0, .bool q1, .bool q2, .bool q3, .bool q4, .bool q5, .bool q6] 62 (0, 0)) e6 v' wx))
  case first =>
    cases q5
    · have HQ : Hid (e6 = e5) := by show _ = _; rw [HE6.out]; exact List.append_nil _
      go_wp2_with fail
      go_meet
      exact ⟨_, by rw [HQ.out]; exact HS.out⟩
    · have HQ : Hid (e5 ++ (rowsB lr) = e6) := by show _ = _; rw [HE6.out]; rfl
      have HCx := Lib.hid (putRows_any wc bb n c A lr e5 _ HS.out.wr (fun W hb => HL.out.below (HS.out.bel.trans (hb.mono HS.out.hb))) HN.out HN4.out HI.out (by have := R6.out; rw [List.length_append] at this; exact this))
      rw [HQ.out] at HCx
      go_wp2_with (go_at_call 43; (with_reducible refine HCx.out.mono ?_); rintro e w4 ⟨rfl, ht⟩; have HT4 := Lib.hid ht; clear ht)
      go_meet
      exact HS.out.step HT4.out
  case rest =>
  obtain ⟨v9, S9⟩ := hcut.out
  have HS := Lib.hid S9
  clear hcut S9 a0 a1 a2 a3 a4 a5 a6 x0 x1 x2 x3 x4 x5 x6 x7 x8 x9 x10 x11 x12 x13
  obtain ⟨a0, a1, a2, a3, a4, a5, a6⟩ := blk7 HS.out.h2
  obtain ⟨⟨x0, x1, x2, x3, x4, x5, x6⟩, x7, x8, x9, x10, x11, x12, x13⟩ := blk14 HS.out.h1
  go_upto_if 62 with (fail)
  go_cut [] from 62 to 66 (fun wx => Hid (∃ v', EncS w bb nbk ab (.cells #[.int .i64 x.k, .int .i64 x.p, .int .i64 x.d, .int .i64 x.t.n, .string x.t.b, .string x.t.s, .string x.t.i, .int .i64 x.t.q, .int .i64 x.t.p, .string x.n, .int .i64 x.a, .slice A n c, .int .i64 x.hi, .int .u64 x.lo] 33 (0, 0)) (.cells #[.bool q0, .bool q1, .bool q2, .bool q3, .bool q4, .bool q5, .bool q6] 62 (0, 0)) e7 v' wx))
  case first =>
    cases q6
    · have HQ : Hid (e7 = e6) := by show _ = _; rw [HE7.out]; exact List.append_nil _
      go_wp2_with fail
      go_meet
      exact ⟨_, by rw [HQ.out]; exact HS.out⟩
    · have HQ : Hid (e6 ++ (Oc.grp (Oc.fold x.hi) ++ Oc.wordF 8 lo) = e7) := by show _ = _; rw [HE7.out]; rfl
      have HCx := Lib.hid (show Calls Tryd.prog 44 #[.pointer (some ⟨bb, 0, none⟩), .agg #[.int .i64 x.hi, .int .u64 x.lo]] wc _ from HLO.out ▸ Oc.wide_any wc bb 0 x.hi lo e6 _ HS.out.wr HH.out.1 HH.out.2 HLO2.out (fun _ => by have := R7.out; simp only [pt, List.length_append, Oc.wordF_len] at this; unfold nb at this; omega))
      rw [Oc.addB_no] at HCx
      rw [HQ.out] at HCx
      go_wp2_with (go_at_call 44; (with_reducible refine HCx.out.mono ?_); rintro e w4 ⟨rfl, ht⟩; have HT4 := Lib.hid ht; clear ht)
      go_meet
      exact HS.out.step HT4.out
  case rest =>
  obtain ⟨v10, S10⟩ := hcut.out
  have HS := Lib.hid S10
  clear hcut S10 a0 a1 a2 a3 a4 a5 a6 x0 x1 x2 x3 x4 x5 x6 x7 x8 x9 x10 x11 x12 x13
  have HDn := Lib.hid (Oc.wdone_any wc bb 0 e7 _ HS.out.wr)
  go_wp2_with (go_at_call 45; (with_reducible refine HDn.out.mono ?_); rintro e w9 ⟨A9, c9, rfl, ho, hb⟩; have HO := Lib.hid ho; have HB9 := Lib.hid hb; clear ho hb)
  go_ret2
  exact ⟨A9, c9, rfl, Oc.BAt.of_own HO.out, HS.out.bel.trans (HB9.out.mono HS.out.bel.size)⟩
end Go.Proofs.YteahloddjekakaaDoor.Nt
