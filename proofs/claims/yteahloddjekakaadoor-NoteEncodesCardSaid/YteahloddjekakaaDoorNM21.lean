/-
  Encode of a right note that has just these parts: none. Conditions: the table of kinds lies as the program's text lays it.
-/
import Derived.Test.YteahloddjekakaaDoorNM10
import Derived.Test.YteahloddjekakaaDoorNM19
import Derived.Test.YteahloddjekakaaDoorNM1
import Derived.Test.YteahloddjekakaaDoorRows
import Derived.ProofKit
import Derived.OpenShut
import Derived.ChangeOld
import Derived.Lib.SmallJoins
import Derived.ChangeMaps5
import Derived.HandedShaped
import Derived.Handed
import Derived.Lay
import Derived.LaidMore
namespace Go.Proofs.YteahloddjekakaaDoor.Nt
open Go.RowKit Td

set_option maxRecDepth 100000 in
set_option maxHeartbeats 8000000 in
theorem enc_none (w : World) (hk : KinC w) (x : Nt) (A : Option Addr) (n c : Nat) (m : Nat) (hm : x.k = (m : Int)) (h1 : 1 ≤ m) (h2 : m ≤ 12) (g0 : kp m = false) (g1 : kd m = false) (g2 : kt m = false) (g3 : kn m = false) (g4 : ka m = false) (g5 : kr m = false) (g6 : kc m = false)
    (HC : Hid (∀ W, Below w.heap.size w W → Calls Tryd.prog 10 #[.agg #[.int .i64 x.k, .int .i64 x.p, .int .i64 x.d, .int .i64 x.t.n, .string x.t.b, .string x.t.s, .string x.t.i, .int .i64 x.t.q, .int .i64 x.t.p, .string x.n, .int .i64 x.a, .slice A n c, .int .i64 x.hi, .int .u64 x.lo]] W fun e w' => e = .returned (.int .i64 0) ∧ Below W.heap.size W w'))  :
    Calls Tryd.prog 17 #[.agg #[.int .i64 x.k, .int .i64 x.p, .int .i64 x.d, .int .i64 x.t.n, .string x.t.b, .string x.t.s, .string x.t.i, .int .i64 x.t.q, .int .i64 x.t.p, .string x.n, .int .i64 x.a, .slice A n c, .int .i64 x.hi, .int .u64 x.lo]] w fun e w' => ∃ A' cap, e = .returned (.tuple #[.slice A' ([(m : Int)] : List Int).length cap, .int .i64 0]) ∧ Oc.BAt w' (.slice A' ([(m : Int)] : List Int).length cap) ([(m : Int)] : List Int) ∧ Below w.heap.size w w' := by
  have E1 := block_new w (.cells #[.int .i64 x.k, .int .i64 x.p, .int .i64 x.d, .int .i64 x.t.n, .string x.t.b, .string x.t.s, .string x.t.i, .int .i64 x.t.q, .int .i64 x.t.p, .string x.n, .int .i64 x.a, .slice A n c, .int .i64 x.hi, .int .u64 x.lo] 33)
  have hB0 : Below w.heap.size w (w.alloc (.cells #[.int .i64 x.k, .int .i64 x.p, .int .i64 x.d, .int .i64 x.t.n, .string x.t.b, .string x.t.s, .string x.t.i, .int .i64 x.t.q, .int .i64 x.t.p, .string x.n, .int .i64 x.a, .slice A n c, .int .i64 x.hi, .int .u64 x.lo] 33)) := (Below.refl _ _).alloc (Nat.le_refl _) _
  have HB0 := Lib.hid hB0
  have HK := Lib.hid hk
  have HC1 := Lib.hid (HC.out _ hB0)
  have HM := Lib.hid hm
  have HM2 := Lib.hid h2
  have hu : IntKind.u8.wrap (m : Int) = (m : Int) := by unfold IntKind.wrap; simp [IntKind.bits, IntKind.signed]; omega
  have hm13 : (m : Int) < 13 := by omega
  have hm0 : (0 : Int) ≤ (m : Int) := by omega
  have HG : Hid (kp m = false ∧ kd m = false ∧ kt m = false ∧ kn m = false ∧ ka m = false ∧ kr m = false ∧ kc m = false) := ⟨g0, g1, g2, g3, g4, g5, g6⟩
  clear hB0 hk hm h1 h2 HC g0 g1 g2 g3 g4 g5 g6
  go_enter Tryd.func17, Tryd.ntmps17
  go_upto_region 1 with fail
  generalize w.alloc _ = W0 at E1 HB0 HC1 ⊢
  have HE1 := Lib.hid E1
  obtain ⟨⟨x0, x1, x2, x3, x4, x5, x6⟩, x7, x8, x9, x10, x11, x12, x13⟩ := blk14 E1
  clear E1
  go_upto_region 4 with (go_at_call 10; (with_reducible refine HC1.out.mono ?_); rintro e w1 ⟨rfl, hb⟩; have HB1 := Lib.hid (HB0.out.trans (hb.mono HB0.out.size)); have HE2 := Lib.hid (block_kept HE1.out hb); clear hb)
  clear x0 x1 x2 x3 x4 x5 x6 x7 x8 x9 x10 x11 x12 x13
  have y0 : (w1.alloc (.cells #[.int .i64 0, .slice none 0 0] 77)).cell? ⟨w.heap.size, 0, none⟩ = some (.int .i64 (m : Int)) := by rw [← HM.out]; exact (blk14 (block_old HE2.out _)).1.1
  have HBy := Lib.hid (Oc.byte_any (w1.alloc (.cells #[.int .i64 0, .slice none 0 0] 77)) w1.heap.size 0 (m : Int) [] _ (wr_new w1) (fun _ => by simp))
  go_upto_region 5 with (go_at_call 38; (with_reducible refine HBy.out.mono ?_); rintro e w2 ⟨rfl, ht⟩; have HT := Lib.hid ht; clear ht)
  rw [Oc.addB_no, List.nil_append] at HT
  obtain ⟨hB2, hS⟩ := enc_first HE2.out HB1.out HT.out
  obtain ⟨v3, S3⟩ := hS #[.bool false, .bool false, .bool false, .bool false, .bool false, .bool false, .bool false] 62
  have HS3 := Lib.hid S3
  have hkw := (HK.out.below (HB1.out.trans (hB2.mono HB1.out.size)) HK.out.1).2 m HM2.out
  obtain ⟨g0, g1, g2, g3, g4, g5, g6⟩ := HG.out
  rw [g0, g1, g2, g3, g4, g5, g6] at hkw
  obtain ⟨_, k1, k2, k3, k4, k5, k6, k7⟩ := hkw
  have k2' : w2.cell? ⟨0, m * 8 + 1 + 1, none⟩ = some (.bool false) := k2
  have k3' : w2.cell? ⟨0, m * 8 + 1 + 2, none⟩ = some (.bool false) := k3
  have k4' : w2.cell? ⟨0, m * 8 + 1 + 3, none⟩ = some (.bool false) := k4
  have k5' : w2.cell? ⟨0, m * 8 + 1 + 4, none⟩ = some (.bool false) := k5
  have k6' : w2.cell? ⟨0, m * 8 + 1 + 5, none⟩ = some (.bool false) := k6
  have k7' : w2.cell? ⟨0, m * 8 + 1 + 6, none⟩ = some (.bool false) := k7
  have z0 : w2.cell? ⟨w.heap.size, 0, none⟩ = some (.int .i64 (m : Int)) := by rw [← HM.out]; exact (blk14 (block_kept HE2.out hB2)).1.1
  clear S3 hS hB2 k2 k3 k4 k5 k6 k7 g0 g1 g2 g3 g4 g5 g6 HBy y0 HE1 HE2
  go_upto_region 6 with fail
  clear k1 k2' k3' k4' k5' k6' k7' z0
  obtain ⟨ab, hab⟩ : ∃ ab, ab = w2.heap.size := ⟨_, rfl⟩
  rw [← hab] at HS3 ⊢
  generalize w2.alloc _ = W3 at HS3 ⊢
  clear hab HT
  obtain ⟨a0, a1, a2, a3, a4, a5, a6⟩ := blk7 HS3.out.h2
  obtain ⟨⟨x0, x1, x2, x3, x4, x5, x6⟩, x7, x8, x9, x10, x11, x12, x13⟩ := blk14 HS3.out.h1
  have HD := Lib.hid (Oc.wdone_any W3 w1.heap.size 0 [(m : Int)] v3 HS3.out.wr)
  go_wp2_with (go_at_call 45; (with_reducible refine HD.out.mono ?_); rintro e w9 ⟨A9, c9, rfl, ho, hb⟩; have HO := Lib.hid ho; have HB9 := Lib.hid hb; clear ho hb)
  go_ret2
  exact ⟨A9, c9, rfl, Oc.BAt.of_own HO.out, HS3.out.bel.trans (HB9.out.mono HS3.out.bel.size)⟩
end Go.Proofs.YteahloddjekakaaDoor.Nt

namespace Go.Proofs.YteahloddjekakaaDoor.Nt
open Go.RowKit Td

set_option maxRecDepth 100000 in
set_option maxHeartbeats 8000000 in
theorem enc_p (w : World) (hk : KinC w) (x : Nt) (A : Option Addr) (n c : Nat) (m : Nat) (hm : x.k = (m : Int)) (h1 : 1 ≤ m) (h2 : m ≤ 12) (g0 : kp m = true) (g1 : kd m = false) (g2 : kt m = false) (g3 : kn m = false) (g4 : ka m = false) (g5 : kr m = false) (g6 : kc m = false)
    (HC : Hid (∀ W, Below w.heap.size w W → Calls Tryd.prog 10 #[.agg #[.int .i64 x.k, .int .i64 x.p, .int .i64 x.d, .int .i64 x.t.n, .string x.t.b, .string x.t.s, .string x.t.i, .int .i64 x.t.q, .int .i64 x.t.p, .string x.n, .int .i64 x.a, .slice A n c, .int .i64 x.hi, .int .u64 x.lo]] W fun e w' => e = .returned (.int .i64 0) ∧ Below W.heap.size W w')) (hp0 : 0 ≤ x.p) (hp2 : x.p < 3) :
    Calls Tryd.prog 17 #[.agg #[.int .i64 x.k, .int .i64 x.p, .int .i64 x.d, .int .i64 x.t.n, .string x.t.b, .string x.t.s, .string x.t.i, .int .i64 x.t.q, .int .i64 x.t.p, .string x.n, .int .i64 x.a, .slice A n c, .int .i64 x.hi, .int .u64 x.lo]] w fun e w' => ∃ A' cap, e = .returned (.tuple #[.slice A' ([(m : Int), x.p] : List Int).length cap, .int .i64 0]) ∧ Oc.BAt w' (.slice A' ([(m : Int), x.p] : List Int).length cap) ([(m : Int), x.p] : List Int) ∧ Below w.heap.size w w' := by
  have E1 := block_new w (.cells #[.int .i64 x.k, .int .i64 x.p, .int .i64 x.d, .int .i64 x.t.n, .string x.t.b, .string x.t.s, .string x.t.i, .int .i64 x.t.q, .int .i64 x.t.p, .string x.n, .int .i64 x.a, .slice A n c, .int .i64 x.hi, .int .u64 x.lo] 33)
  have hB0 : Below w.heap.size w (w.alloc (.cells #[.int .i64 x.k, .int .i64 x.p, .int .i64 x.d, .int .i64 x.t.n, .string x.t.b, .string x.t.s, .string x.t.i, .int .i64 x.t.q, .int .i64 x.t.p, .string x.n, .int .i64 x.a, .slice A n c, .int .i64 x.hi, .int .u64 x.lo] 33)) := (Below.refl _ _).alloc (Nat.le_refl _) _
  have HB0 := Lib.hid hB0
  have HK := Lib.hid hk
  have HC1 := Lib.hid (HC.out _ hB0)
  have HM := Lib.hid hm
  have HM2 := Lib.hid h2
  have hu : IntKind.u8.wrap (m : Int) = (m : Int) := by unfold IntKind.wrap; simp [IntKind.bits, IntKind.signed]; omega
  have hm13 : (m : Int) < 13 := by omega
  have hm0 : (0 : Int) ≤ (m : Int) := by omega
  have hup : IntKind.u8.wrap x.p = x.p := by unfold IntKind.wrap; simp [IntKind.bits, IntKind.signed]; omega
  have hp256 : x.p < 256 := by omega
  have HG : Hid (kp m = true ∧ kd m = false ∧ kt m = false ∧ kn m = false ∧ ka m = false ∧ kr m = false ∧ kc m = false) := ⟨g0, g1, g2, g3, g4, g5, g6⟩
  clear hB0 hk hm h1 h2 HC g0 g1 g2 g3 g4 g5 g6
  go_enter Tryd.func17, Tryd.ntmps17
  go_upto_region 1 with fail
  generalize w.alloc _ = W0 at E1 HB0 HC1 ⊢
  have HE1 := Lib.hid E1
  obtain ⟨⟨x0, x1, x2, x3, x4, x5, x6⟩, x7, x8, x9, x10, x11, x12, x13⟩ := blk14 E1
  clear E1
  go_upto_region 4 with (go_at_call 10; (with_reducible refine HC1.out.mono ?_); rintro e w1 ⟨rfl, hb⟩; have HB1 := Lib.hid (HB0.out.trans (hb.mono HB0.out.size)); have HE2 := Lib.hid (block_kept HE1.out hb); clear hb)
  clear x0 x1 x2 x3 x4 x5 x6 x7 x8 x9 x10 x11 x12 x13
  have y0 : (w1.alloc (.cells #[.int .i64 0, .slice none 0 0] 77)).cell? ⟨w.heap.size, 0, none⟩ = some (.int .i64 (m : Int)) := by rw [← HM.out]; exact (blk14 (block_old HE2.out _)).1.1
  have HBy := Lib.hid (Oc.byte_any (w1.alloc (.cells #[.int .i64 0, .slice none 0 0] 77)) w1.heap.size 0 (m : Int) [] _ (wr_new w1) (fun _ => by simp))
  go_upto_region 5 with (go_at_call 38; (with_reducible refine HBy.out.mono ?_); rintro e w2 ⟨rfl, ht⟩; have HT := Lib.hid ht; clear ht)
  rw [Oc.addB_no, List.nil_append] at HT
  obtain ⟨hB2, hS⟩ := enc_first HE2.out HB1.out HT.out
  obtain ⟨v3, S3⟩ := hS #[.bool true, .bool false, .bool false, .bool false, .bool false, .bool false, .bool false] 62
  have HS3 := Lib.hid S3
  have hkw := (HK.out.below (HB1.out.trans (hB2.mono HB1.out.size)) HK.out.1).2 m HM2.out
  obtain ⟨g0, g1, g2, g3, g4, g5, g6⟩ := HG.out
  rw [g0, g1, g2, g3, g4, g5, g6] at hkw
  obtain ⟨_, k1, k2, k3, k4, k5, k6, k7⟩ := hkw
  have k2' : w2.cell? ⟨0, m * 8 + 1 + 1, none⟩ = some (.bool false) := k2
  have k3' : w2.cell? ⟨0, m * 8 + 1 + 2, none⟩ = some (.bool false) := k3
  have k4' : w2.cell? ⟨0, m * 8 + 1 + 3, none⟩ = some (.bool false) := k4
  have k5' : w2.cell? ⟨0, m * 8 + 1 + 4, none⟩ = some (.bool false) := k5
  have k6' : w2.cell? ⟨0, m * 8 + 1 + 5, none⟩ = some (.bool false) := k6
  have k7' : w2.cell? ⟨0, m * 8 + 1 + 6, none⟩ = some (.bool false) := k7
  have z0 : w2.cell? ⟨w.heap.size, 0, none⟩ = some (.int .i64 (m : Int)) := by rw [← HM.out]; exact (blk14 (block_kept HE2.out hB2)).1.1
  clear S3 hS hB2 k2 k3 k4 k5 k6 k7 g0 g1 g2 g3 g4 g5 g6 HBy y0 HE1 HE2
  go_upto_region 6 with fail
  clear k1 k2' k3' k4' k5' k6' k7' z0
  obtain ⟨ab, hab⟩ : ∃ ab, ab = w2.heap.size := ⟨_, rfl⟩
  rw [← hab] at HS3 ⊢
  generalize w2.alloc _ = W3 at HS3 ⊢
  clear hab HT
  obtain ⟨a0, a1, a2, a3, a4, a5, a6⟩ := blk7 HS3.out.h2
  obtain ⟨⟨x0, x1, x2, x3, x4, x5, x6⟩, x7, x8, x9, x10, x11, x12, x13⟩ := blk14 HS3.out.h1
  have HP := Lib.hid (Oc.byte_any W3 w1.heap.size 0 x.p [(m : Int)] v3 HS3.out.wr (fun _ => by simp))
  go_upto_region 8 with (go_at_call 38; (with_reducible refine HP.out.mono ?_); rintro e w4 ⟨rfl, ht⟩; have HT4 := Lib.hid ht; clear ht)
  rw [Oc.addB_no] at HT4
  obtain ⟨v4, S4⟩ := HS3.out.step HT4.out
  have HS4 := Lib.hid S4
  clear S4 HT4 HP HS3 a0 a1 a2 a3 a4 a5 a6 x0 x1 x2 x3 x4 x5 x6 x7 x8 x9 x10 x11 x12 x13
  obtain ⟨a0, a1, a2, a3, a4, a5, a6⟩ := blk7 HS4.out.h2
  obtain ⟨⟨x0, x1, x2, x3, x4, x5, x6⟩, x7, x8, x9, x10, x11, x12, x13⟩ := blk14 HS4.out.h1
  have HD := Lib.hid (Oc.wdone_any w4 w1.heap.size 0 ([(m : Int)] ++ [x.p]) v4 HS4.out.wr)
  go_wp2_with (go_at_call 45; (with_reducible refine HD.out.mono ?_); rintro e w9 ⟨A9, c9, rfl, ho, hb⟩; have HO := Lib.hid ho; have HB9 := Lib.hid hb; clear ho hb)
  go_ret2
  exact ⟨A9, c9, rfl, Oc.BAt.of_own HO.out, HS4.out.bel.trans (HB9.out.mono HS4.out.bel.size)⟩
end Go.Proofs.YteahloddjekakaaDoor.Nt

namespace Go.Proofs.YteahloddjekakaaDoor.Nt
open Go.RowKit Td

def nCut : Nt := ⟨2, 0, 0, zT, { data := #[] }, 0, 0, 0⟩
def nStop : Nt := ⟨8, 1, 0, zT, { data := #[] }, 0, 0, 0⟩
def nDay : Nt := ⟨2, 0, 1, zT, { data := #[] }, 0, 0, 0⟩
theorem smN_ex (k p d : Int) : SmN ⟨k, p, d, zT, { data := #[] }, 0, 0, 0⟩ [] := ⟨⟨Nat.zero_le _, Nat.zero_le _, Nat.zero_le _⟩, Nat.zero_le _, Nat.zero_le _, fun _m hm => absurd hm (List.not_mem_nil)⟩
theorem chk_cut : chkN nCut [] = 0 := by show _ = _; kernel_rfl
theorem chk_stop : chkN nStop [] = 0 := by show _ = _; kernel_rfl
theorem chk_day : chkN nDay [] = 1 := by show _ = _; kernel_rfl
theorem enc_cut (w : World) (hk : KinC w) : Calls Tryd.prog 17 #[.agg #[.int .i64 2, .int .i64 0, .int .i64 0, .int .i64 0, .string { data := #[] }, .string { data := #[] }, .string { data := #[] }, .int .i64 0, .int .i64 0, .string { data := #[] }, .int .i64 0, .slice none 0 0, .int .i64 0, .int .u64 0]] w
    fun e w' => ∃ A' cap, e = .returned (.tuple #[.slice A' 1 cap, .int .i64 0]) ∧ Oc.BAt w' (.slice A' 1 cap) [2] ∧ Below w.heap.size w w' :=
  enc_none w hk nCut none 0 0 2 rfl (by decide) (by decide) (by decide) (by decide) (by decide) (by decide) (by decide) (by decide) (by decide) (fun W hW => check_any W (hk.kept hW) nCut none 0 0 [] (RR.nil _ _) rfl (smN_ex 2 0 0) chk_cut.symm)
theorem enc_stop (w : World) (hk : KinC w) : Calls Tryd.prog 17 #[.agg #[.int .i64 8, .int .i64 1, .int .i64 0, .int .i64 0, .string { data := #[] }, .string { data := #[] }, .string { data := #[] }, .int .i64 0, .int .i64 0, .string { data := #[] }, .int .i64 0, .slice none 0 0, .int .i64 0, .int .u64 0]] w
    fun e w' => ∃ A' cap, e = .returned (.tuple #[.slice A' 2 cap, .int .i64 0]) ∧ Oc.BAt w' (.slice A' 2 cap) [8, 1] ∧ Below w.heap.size w w' :=
  enc_p w hk nStop none 0 0 8 rfl (by decide) (by decide) (by decide) (by decide) (by decide) (by decide) (by decide) (by decide) (by decide) (fun W hW => check_any W (hk.kept hW) nStop none 0 0 [] (RR.nil _ _) rfl (smN_ex 8 1 0) chk_stop.symm) (by decide) (by decide)
theorem check_day (w : World) (hk : KinC w) : Calls Tryd.prog 10 #[.agg #[.int .i64 2, .int .i64 0, .int .i64 1, .int .i64 0, .string { data := #[] }, .string { data := #[] }, .string { data := #[] }, .int .i64 0, .int .i64 0, .string { data := #[] }, .int .i64 0, .slice none 0 0, .int .i64 0, .int .u64 0]] w
    fun e w' => e = .returned (.int .i64 1) ∧ Below w.heap.size w w' := check_any w hk nDay none 0 0 [] (RR.nil _ _) rfl (smN_ex 2 0 1) chk_day.symm
def legS : ByteArray := { data := #[108, 101, 103] }
theorem row_bytes (w : World) (l : List Int) (cs : Array Value) (h : cs = (Oc.bv l).toArray) (_hl : 0 < l.length) : Oc.BAt (w.alloc (.cells cs 5)) (.slice (some ⟨w.heap.size, 0, none⟩) l.length l.length) l := by
  subst h
  refine ⟨_, _, rfl, Nat.le_refl _, fun _ => ⟨_, 0, rfl, by simp, fun i hi => ?_⟩⟩
  rw [Nat.zero_add, cell_of_row _ _ _ _ _ _ (block_new w (.cells (Oc.bv l).toArray 5))]
  have := Oc.bv_getD hi
  simpa using this
theorem same_cut (w : World) (u : Value) (h : Oc.BAt w u [2]) : Calls Tryd.prog 19 #[u, .slice (some ⟨w.heap.size, 0, none⟩) 1 1] (w.alloc (.cells #[.int .u8 2] 5)) fun e w' => e = .returned (.bool true) ∧ Below w.heap.size w w' := by
  have hb : Below w.heap.size w (w.alloc (.cells #[.int .u8 2] 5)) := (Below.refl _ _).alloc (Nat.le_refl _) _
  exact (Oc.same_eq _ u _ [2] (h.kept hb) (row_bytes w [2] _ rfl (by decide)) (by decide)).mono fun e w' h => ⟨h.1, hb.trans (h.2.mono hb.size)⟩
theorem same_stop (w : World) (u : Value) (h : Oc.BAt w u [8, 1]) : Calls Tryd.prog 19 #[u, .slice (some ⟨w.heap.size, 0, none⟩) 2 2] (w.alloc (.cells #[.int .u8 8, .int .u8 1] 5)) fun e w' => e = .returned (.bool true) ∧ Below w.heap.size w w' := by
  have hb : Below w.heap.size w (w.alloc (.cells #[.int .u8 8, .int .u8 1] 5)) := (Below.refl _ _).alloc (Nat.le_refl _) _
  exact (Oc.same_eq _ u _ [8, 1] (h.kept hb) (row_bytes w [8, 1] _ rfl (by decide)) (by decide)).mono fun e w' h => ⟨h.1, hb.trans (h.2.mono hb.size)⟩
set_option maxRecDepth 100000 in
set_option maxHeartbeats 4000000 in
theorem known_any (w : World) (hk : KinC w) : Calls Tryd.prog 9 #[] w fun e w' => e = .returned (.bool true) ∧ Below w.heap.size w w' := by
  have HK := Lib.hid hk
  have H1 := Lib.hid (enc_cut w hk)
  have HWD : Hid (∀ W, KinC W → Calls Tryd.prog 13 #[.int .i64 9] W fun e w' => e = .returned (.string { data := #[108, 101, 103] }) ∧ W = w') := fun W hW => word_any W hW 9 (show Hid (({ data := #[108, 101, 103] } : ByteArray) = wordB 9) from rfl)
  have e4 : (({ data := #[108, 101, 103] } : ByteArray).toList == [108, 101, 103]) = true := by rw [toList_data']; rfl
  clear hk
  go_enter Tryd.func9, Tryd.ntmps9
  go_wp2_with (first
    | (go_at_call 13; (with_reducible refine (HWD.out _ HK7.out).mono ?_); rintro e w8 ⟨rfl, rfl⟩)
    | (go_at_call 10; (with_reducible refine (check_day w6 HK6.out).mono ?_); rintro e w7 ⟨rfl, hb⟩; have HB7 := Lib.hid (HB6.out.trans (hb.mono HB6.out.size)); have HK7 := Lib.hid (HK6.out.kept hb); clear hb)
    | (go_at_call 19; (with_reducible refine (same_stop w5 _ HA5.out).mono ?_); rintro e w6 ⟨rfl, hb⟩; have HB6 := Lib.hid (HB5.out.trans (hb.mono HB5.out.size)); have HK6 := Lib.hid (HK5.out.kept hb); clear hb)
    | (go_at_call 19; (with_reducible refine (same_cut w2 _ HA3.out).mono ?_); rintro e w5 ⟨rfl, hb⟩; have HB5 := Lib.hid (HB2.out.trans (hb.mono HB2.out.size)); have HK5 := Lib.hid (HK2.out.kept hb); have HA5 := Lib.hid (HA2.out.kept hb); clear hb)
    | (go_at_call 17; (with_reducible refine (enc_stop w1 HK1.out).mono ?_); rintro e w2 ⟨A2, c2, rfl, ha, hb⟩; have HA2 := Lib.hid ha; have HB2 := Lib.hid (HB1.out.trans (hb.mono HB1.out.size)); have HA3 := Lib.hid (HA1.out.kept hb); have HK2 := Lib.hid (HK1.out.kept hb); clear ha hb)
    | (go_at_call 17; (with_reducible refine H1.out.mono ?_); rintro e w1 ⟨A1, c1, rfl, ha, hb⟩; have HA1 := Lib.hid ha; have HB1 := Lib.hid hb; have HK1 := Lib.hid (HK.out.kept hb); clear ha hb))
  go_ret
  exact ⟨rfl, HB7.out⟩
end Go.Proofs.YteahloddjekakaaDoor.Nt

namespace Go.Proofs.YteahloddjekakaaDoor.Td
open Go.ChangeShapes Go.WideShapes Go.ChangeAt Go.RowKit Go.Joins Go.Deep

set_option maxRecDepth 100000 in
/-- Six cells that read as a trade are one. -/
theorem trod_tr {H : Type} {enc : TypeId × Value → H} {w : World} {base : Nat} {spare : Nat → Bool} {held : Bool} {f0 f1 f2 f3 f4 f5 : Field} {fuel : Nat} {cs : List Value} {x : DataW H × List MemPlace} (he : Tryd.prog.underlying 23 = some (.struct #[f0, f1, f2, f3, f4, f5]))
    (o0 : f0.offset = 0) (o1 : f1.offset = 1) (o2 : f2.offset = 2) (o3 : f3.offset = 3) (o4 : f4.offset = 4) (o5 : f5.offset = 5) (t0 : f0.type = 2) (t1 : f1.type = 9) (t2 : f2.type = 9) (t3 : f3.type = 9) (t4 : f4.type = 2) (t5 : f5.type = 2)
    (h : DataW.trod enc Tryd.prog w base spare held fuel 23 cs = some x) : ∃ t : Tr, cs = [.int .i64 t.n, .string t.b, .string t.s, .string t.i, .int .i64 t.q, .int .i64 t.p] ∧ I64 t.n ∧ I64 t.q ∧ I64 t.p := by
  have cj : Tryd.prog.cellsOf 2 = 1 := by kernel_rfl
  have ct : Tryd.prog.cellsOf 9 = 1 := by kernel_rfl
  have cc : Tryd.prog.cellsOf 23 = 6 := by kernel_rfl
  obtain ⟨xs, k, hk, hxy, hl, hxl, hf⟩ := DataW.trod_struct he h
  rw [cc] at hl
  match xs, hxl, cs, hl with
  | [y0, y1, y2, y3, y4, y5], _, [v0, v1, v2, v3, v4, v5], _ =>
    have g0 := hf 0 f0 rfl
    have g1 := hf 1 f1 rfl
    have g2 := hf 2 f2 rfl
    have g3 := hf 3 f3 rfl
    have g4 := hf 4 f4 rfl
    have g5 := hf 5 f5 rfl
    simp [o0, o1, o2, o3, o4, o5, t0, t1, t2, t3, t4, t5, cj, ct] at g0 g1 g2 g3 g4 g5
    obtain ⟨z0, q0, _, w0⟩ := DataW.trod_int Tryd.underlying2 g0
    obtain ⟨z1, q1, _, _⟩ := DataW.trod_string Tryd.underlying9 g1
    obtain ⟨z2, q2, _, _⟩ := DataW.trod_string Tryd.underlying9 g2
    obtain ⟨z3, q3, _, _⟩ := DataW.trod_string Tryd.underlying9 g3
    obtain ⟨z4, q4, _, w4⟩ := DataW.trod_int Tryd.underlying2 g4
    obtain ⟨z5, q5, _, w5⟩ := DataW.trod_int Tryd.underlying2 g5
    simp at q0 q1 q2 q3 q4 q5
    subst q0 q1 q2 q3 q4 q5
    simp [Lit.wf, IntKind.min, IntKind.max, IntKind.signed, IntKind.bits] at w0 w4 w5
    exact ⟨⟨z0, z1, z2, z3, z4, z5⟩, rfl, ⟨by show _ ≤ z0; omega, by show z0 ≤ _; omega⟩, ⟨by show _ ≤ z4; omega, by show z4 ≤ _; omega⟩, ⟨by show _ ≤ z5; omega, by show z5 ≤ _; omega⟩⟩

set_option maxRecDepth 100000 in
/-- A trade by value that came in. -/
theorem open_tr {H : Type} {enc : TypeId × Value → H} {w : World} {base b0 : Nat} {spare : Nat → Bool} {held : Bool} {r : Reach} {v : Value} {d : DataW H} {p : List MemPlace}
    (hv : Value.okWide Tryd.prog w r b0 23 v) (h : DataW.Trod enc Tryd.prog w base spare held 23 v d p) : ∃ t : Tr, v = .agg #[.int .i64 t.n, .string t.b, .string t.s, .string t.i, .int .i64 t.q, .int .i64 t.p] ∧ I64 t.n ∧ I64 t.q ∧ I64 t.p := by
  obtain ⟨cs, rfl, hsz⟩ := okWide_struct Tryd.underlying23 hv
  obtain ⟨fuel, hf⟩ := h
  obtain ⟨t, ht, hk⟩ := trod_tr Tryd.underlying23 rfl rfl rfl rfl rfl rfl rfl rfl rfl rfl rfl rfl hf
  refine ⟨t, ?_, hk⟩
  have e : cs.toList = [.int .i64 t.n, .string t.b, .string t.s, .string t.i, .int .i64 t.q, .int .i64 t.p] := by simpa [Value.cells] using ht
  congr 1
  exact Array.toList_inj.1 e

end Go.Proofs.YteahloddjekakaaDoor.Td
