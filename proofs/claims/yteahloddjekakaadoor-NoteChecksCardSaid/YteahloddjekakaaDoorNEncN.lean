/-
  Encode of a right note that has just these parts: none. Conditions: the table of kinds lies as the program's text lays it.
-/
import Derived.Test.YteahloddjekakaaDoorNEncZ
namespace Go.Proofs.YteahloddjekakaaDoor.Nt
open Go.RowKit Td

set_option maxRecDepth 100000 in
set_option maxHeartbeats 8000000 in
theorem enc_none (w : World) (hk : KinC w) (x : Nt) (A : Option Addr) (n c : Nat) (m : Nat) (hm : x.k = (m : Int)) (h1 : 1 ≤ m) (h2 : m ≤ 12) (g0 : kp m = false) (g1 : kd m = false) (g2 : kt m = false) (g3 : kn m = false) (g4 : ka m = false) (g5 : kr m = false) (g6 : kc m = false)
    (HC : Hid (∀ W, Below w.heap.size w W → Calls Tryd.prog 10 #[.agg #[.int .i64 x.k, .int .i64 x.p, .int .i64 x.d, .int .i64 x.t.n, .string x.t.b, .string x.t.s, .string x.t.i, .int .i64 x.t.q, .int .i64 x.t.p, .string x.n, .int .i64 x.a, .slice A n c, .int .i64 x.hi, .int .u64 x.lo]] W fun e w' => e = .returned (.int .i64 0) ∧ Below W.heap.size W w'))  :
    Calls Tryd.prog 17 #[.agg #[.int .i64 x.k, .int .i64 x.p, .int .i64 x.d, .int .i64 x.t.n, .string x.t.b, .string x.t.s, .string x.t.i, .int .i64 x.t.q, .int .i64 x.t.p, .string x.n, .int .i64 x.a, .slice A n c, .int .i64 x.hi, .int .u64 x.lo]] w fun e w' => ∃ A' cap, e = .returned (.tuple #[.slice A' ([(m : Int)] : List Int).length cap, .int .i64 0]) ∧ Oc.BAt w' (.slice A' ([(m : Int)] : List Int).length cap) ([(m : Int)] : List Int) ∧ Below w.heap.size w w' := by
  have E1 := block_new w (.cells #[.int .i64 x.k, .int .i64 x.p, .int .i64 x.d, .int .i64 x.t.n, .string x.t.b, .string x.t.s, .string x.t.i, .int .i64 x.t.q, .int .i64 x.t.p, .string x.n, .int .i64 x.a, .slice A n c, .int .i64 x.hi, .int .u64 x.lo] 33)
  have hB0 : Below w.heap.size w (w.alloc (.cells #[.int .i64 x.k, .int .i64 x.p, .int .i64 x.d, .int .i64 x.t.n, .string x.t.b, .string x.t.s, .string x.t.i, .int .i64 x.t.q, .int .i64 x.t.p, .string x.n, .int .i64 x.a, .slice A n c, .int .i64 x.hi, .int .u64 x.lo] 33)) := (Below.refl _ _).alloc (Nat.le_refl _) _
  have HB0 := Lib.hid hB0
  have HK := Lib.hid hk
  have HC1 := Lib.hid (HC.out _ hB0)
  have HM := Lib.hid hm
  have HM2 := Lib.hid h2
  have hu : IntKind.u8.wrap (m : Int) = (m : Int) := by unfold IntKind.wrap; simp [IntKind.bits, IntKind.signed]; omega
  have hm13 : (m : Int) < 13 := by omega
  have hm0 : (0 : Int) ≤ (m : Int) := by omega
  have HG : Hid (kp m = false ∧ kd m = false ∧ kt m = false ∧ kn m = false ∧ ka m = false ∧ kr m = false ∧ kc m = false) := ⟨g0, g1, g2, g3, g4, g5, g6⟩
  clear hB0 hk hm h1 h2 HC g0 g1 g2 g3 g4 g5 g6
  go_enter Tryd.func17, Tryd.ntmps17
  go_upto_region 1 with fail
  generalize w.alloc _ = W0 at E1 HB0 HC1 ⊢
  have HE1 := Lib.hid E1
  obtain ⟨⟨x0, x1, x2, x3, x4, x5, x6⟩, x7, x8, x9, x10, x11, x12, x13⟩ := blk14 E1
  clear E1
  go_upto_region 4 with (go_at_call 10; (with_reducible refine HC1.out.mono ?_); rintro e w1 ⟨rfl, hb⟩; have HB1 := Lib.hid (HB0.out.trans (hb.mono HB0.out.size)); have HE2 := Lib.hid (block_kept HE1.out hb); clear hb)
  clear x0 x1 x2 x3 x4 x5 x6 x7 x8 x9 x10 x11 x12 x13
  have y0 : (w1.alloc (.cells #[.int .i64 0, .slice none 0 0] 77)).cell? ⟨w.heap.size, 0, none⟩ = some (.int .i64 (m : Int)) := by rw [← HM.out]; exact (blk14 (block_old HE2.out _)).1.1
  have HBy := Lib.hid (Oc.byte_any (w1.alloc (.cells #[.int .i64 0, .slice none 0 0] 77)) w1.heap.size 0 (m : Int) [] _ (wr_new w1) (fun _ => by simp))
  go_upto_region 5 with (go_at_call 38; (with_reducible refine HBy.out.mono ?_); rintro e w2 ⟨rfl, ht⟩; have HT := Lib.hid ht; clear ht)
  rw [Oc.addB_no, List.nil_append] at HT
  obtain ⟨hB2, hS⟩ := enc_first HE2.out HB1.out HT.out
  obtain ⟨v3, S3⟩ := hS #[.bool false, .bool false, .bool false, .bool false, .bool false, .bool false, .bool false] 62
  have HS3 := Lib.hid S3
  have hkw := (HK.out.below (HB1.out.trans (hB2.mono HB1.out.size)) HK.out.1).2 m HM2.out
  obtain ⟨g0, g1, g2, g3, g4, g5, g6⟩ := HG.out
  rw [g0, g1, g2, g3, g4, g5, g6] at hkw
  obtain ⟨_, k1, k2, k3, k4, k5, k6, k7⟩ := hkw
  have k2' : w2.cell? ⟨0, m * 8 + 1 + 1, none⟩ = some (.bool false) := k2
  have k3' : w2.cell? ⟨0, m * 8 + 1 + 2, none⟩ = some (.bool false) := k3
  have k4' : w2.cell? ⟨0, m * 8 + 1 + 3, none⟩ = some (.bool false) := k4
  have k5' : w2.cell? ⟨0, m * 8 + 1 + 4, none⟩ = some (.bool false) := k5
  have k6' : w2.cell? ⟨0, m * 8 + 1 + 5, none⟩ = some (.bool false) := k6
  have k7' : w2.cell? ⟨0, m * 8 + 1 + 6, none⟩ = some (.bool false) := k7
  have z0 : w2.cell? ⟨w.heap.size, 0, none⟩ = some (.int .i64 (m : Int)) := by rw [← HM.out]; exact (blk14 (block_kept HE2.out hB2)).1.1
  clear S3 hS hB2 k2 k3 k4 k5 k6 k7 g0 g1 g2 g3 g4 g5 g6 HBy y0 HE1 HE2
  go_upto_region 6 with fail
  clear k1 k2' k3' k4' k5' k6' k7' z0
  obtain ⟨ab, hab⟩ : ∃ ab, ab = w2.heap.size := ⟨_, rfl⟩
  rw [← hab] at HS3 ⊢
  generalize w2.alloc _ = W3 at HS3 ⊢
  clear hab HT
  obtain ⟨a0, a1, a2, a3, a4, a5, a6⟩ := blk7 HS3.out.h2
  obtain ⟨⟨x0, x1, x2, x3, x4, x5, x6⟩, x7, x8, x9, x10, x11, x12, x13⟩ := blk14 HS3.out.h1
  have HD := Lib.hid (Oc.wdone_any W3 w1.heap.size 0 [(m : Int)] v3 HS3.out.wr)
  go_wp2_with (go_at_call 45; (with_reducible refine HD.out.mono ?_); rintro e w9 ⟨A9, c9, rfl, ho, hb⟩; have HO := Lib.hid ho; have HB9 := Lib.hid hb; clear ho hb)
  go_ret2
  exact ⟨A9, c9, rfl, Oc.BAt.of_own HO.out, HS3.out.bel.trans (HB9.out.mono HS3.out.bel.size)⟩
end Go.Proofs.YteahloddjekakaaDoor.Nt
