/-
  The chapter's example, as the laws ask for it. Conditions: the library's variable internal/bytealg.MaxLen holds a number.
-/
import Derived.Test.YtkoihpfgleboiaaDoorYPas
import Derived.Test.YtkoihpfgleboiaaDoorYVal
namespace Go.Proofs.YtkoihpfgleboiaaDoor.Td
open Go.RowKit

def exZ : Tr := ⟨7, { data := #[97, 108, 102, 97] }, { data := #[98, 101, 116, 97] }, { data := #[85, 83, 48, 51, 55, 56, 51, 51, 49, 48, 48, 53] }, 0, 250⟩
theorem exZ_bad : Hid (2 = chk exZ) := by show _ = _; kernel_rfl
theorem exZ_check (W : World) : Calls Tryd.prog 24 #[.agg #[.int .i64 7, .string { data := #[97, 108, 102, 97] }, .string { data := #[98, 101, 116, 97] }, .string { data := #[85, 83, 48, 51, 55, 56, 51, 51, 49, 48, 48, 53] }, .int .i64 0, .int .i64 250]] W fun e w' => e = .returned (.int .i64 2) ∧ Below W.heap.size W w' := check_any W exZ ⟨by decide, by decide, by decide⟩ exZ_bad
theorem ex_value (W : World) : Calls Tryd.prog 19 #[.agg #[.int .i64 7, .string { data := #[97, 108, 102, 97] }, .string { data := #[98, 101, 116, 97] }, .string { data := #[85, 83, 48, 51, 55, 56, 51, 51, 49, 48, 48, 53] }, .int .i64 10, .int .i64 250]] W fun e w' => ∃ h l, e = .returned (.agg #[.int .i64 h, .int .u64 l]) ∧ Hid (WOk h l ∧ Hid ((2500 : Int) = wv h l)) ∧ Below W.heap.size W w' :=
  value_any W exT ⟨by decide, by decide⟩ ⟨by decide, by decide⟩ (show (2500 : Int) = 10 * 250 by decide)
theorem ex_num (W : World) (h l : Int) (hs : Hid (WOk h l ∧ Hid ((2500 : Int) = wv h l))) : Calls Tryd.prog 12 #[.agg #[.int .i64 h, .int .u64 l]] W fun e w' => ∃ u, e = .returned u ∧ NumIs w' u 2500 ∧ Below W.heap.size W w' := num_is W h l hs.out.1 hs.out.2
theorem ex_small (W : World) : Calls Tryd.prog 23 #[.int .i64 2500] W fun e w' => ∃ u, e = .returned u ∧ NumIs w' u 2500 ∧ Below W.heap.size W w' := small_any W 2500 (by decide) (by decide)
theorem num_same (W : World) (u v : Value) (z : Int) (h : NumIs W u z) (h' : NumIs W v z) : Calls Tryd.prog 11 #[u, v] W fun e w' => e = .returned (.int .i64 0) ∧ Below W.heap.size W w' := by
  have k := Go.Proofs.YtkoihpfgleboiaaDoor.compare_any W u v z z h h'
  rwa [show cmpI z z = 0 from by unfold cmpI; rw [if_neg (Int.lt_irrefl _), if_neg (Int.lt_irrefl _)]] at k

set_option maxRecDepth 100000 in
set_option maxHeartbeats 2000000 in
theorem known_any (w : World) (m : Int) (hm : w.cell? ⟨0, 0, none⟩ = some (.int .i64 m)) :
    Calls Tryd.prog 10 #[] w fun e w' => e = .returned (.bool true) ∧ Below w.heap.size w w' := by
  have HM := Lib.hid hm
  clear hm
  go_enter Tryd.func10, Tryd.ntmps10
  go_upto_region 2 with (go_at_call 22; (with_reducible refine (parse_known _ m HM.out).mono ?_); rintro e w1 ⟨rfl, hb⟩; have HB1 := Lib.hid hb; clear hb)
  obtain ⟨W2, hW2⟩ : ∃ W, W = w1.alloc (.cells #[.int .i64 7, .string { data := #[97, 108, 102, 97] }, .string { data := #[98, 101, 116, 97] }, .string { data := #[85, 83, 48, 51, 55, 56, 51, 51, 49, 48, 48, 53] }, .int .i64 10, .int .i64 250] 28) := ⟨_, rfl⟩
  have E2 := block_new w1 (.cells #[.int .i64 7, .string { data := #[97, 108, 102, 97] }, .string { data := #[98, 101, 116, 97] }, .string { data := #[85, 83, 48, 51, 55, 56, 51, 51, 49, 48, 48, 53] }, .int .i64 10, .int .i64 250] 28)
  have hB2 := HB1.out.alloc HB1.out.size (.cells #[.int .i64 7, .string { data := #[97, 108, 102, 97] }, .string { data := #[98, 101, 116, 97] }, .string { data := #[85, 83, 48, 51, 55, 56, 51, 51, 49, 48, 48, 53] }, .int .i64 10, .int .i64 250] 28)
  rw [← hW2] at E2 hB2 ⊢
  clear hW2
  have hz := HB1.out.size
  obtain ⟨b, hbe⟩ : ∃ b, b = w1.heap.size := ⟨_, rfl⟩
  rw [← hbe] at E2 hz ⊢
  have T2 := Lib.hid E2
  have HB2 := Lib.hid hB2
  have HZ := Lib.hid hz
  clear E2 hB2 hz hbe HB1
  obtain ⟨t0, t1, t2, t3, t4, t5⟩ := blk6 T2.out
  go_upto_region 3 with (first
    | (go_at_call 11; (with_reducible refine (num_same w5 _ _ 2500 N45.out N5.out).mono ?_); rintro e w6 ⟨rfl, hb⟩; have T6 := Lib.hid (block_kept T5.out hb); have HB6 := Lib.hid (HB5.out.trans (hb.mono HB5.out.size)); clear hb)
    | (go_at_call 23; (with_reducible refine (ex_small w4).mono ?_); rintro e w5 ⟨u, rfl, ⟨A5, n5, c5, rfl, hd⟩, hb⟩; have N5 : Hid (NumIs w5 (.agg #[.bool (false), .slice A5 n5 c5]) 2500) := (⟨A5, n5, c5, rfl, hd⟩ : NumIs w5 (.agg #[.bool (false), .slice A5 n5 c5]) 2500); have N45 := Lib.hid (NumIs.below N4.out hb (Nat.le_refl _)); have T5 := Lib.hid (block_kept T4.out hb); have HB5 := Lib.hid (HB4.out.trans (hb.mono HB4.out.size)); clear hb hd)
    | (go_at_call 12; (with_reducible refine (ex_num w3 h l hs).mono ?_); rintro e w4 ⟨u, rfl, ⟨A4, n4, c4, rfl, hd⟩, hb⟩; have N4 : Hid (NumIs w4 (.agg #[.bool (false), .slice A4 n4 c4]) 2500) := (⟨A4, n4, c4, rfl, hd⟩ : NumIs w4 (.agg #[.bool (false), .slice A4 n4 c4]) 2500); have T4 := Lib.hid (block_kept T3.out hb); have HB4 := Lib.hid (HB3.out.trans (hb.mono HB3.out.size)); clear hb hd)
    | (go_at_call 19; (with_reducible refine (ex_value W2).mono ?_); rintro e w3 ⟨h, l, rfl, hs, hb⟩; have T3 := Lib.hid (block_kept T2.out hb); have HB3 := Lib.hid (HB2.out.trans (hb.mono HB2.out.size)); clear hb t0 t1 t2 t3 t4 t5))
  obtain ⟨t0, t1, t2, t3, t4, t5⟩ := blk6 T6.out
  obtain ⟨f0, f1, f2, f3, f4, f5⟩ := fro6 T6.out
  have HB7 : Hid (Below w.heap.size w (w6.setCell ⟨b, 4, none⟩ (.int .i64 0))) := HB6.out.setCell (p := ⟨b, 4, none⟩) HZ.out _
  go_wp2_with (go_at_call 24; (with_reducible refine (exZ_check _).mono ?_); rintro e w8 ⟨rfl, hb⟩; have HB8 := Lib.hid (HB7.out.trans (hb.mono HB7.out.size)); clear hb)
  go_ret
  exact ⟨rfl, HB8.out⟩
end Go.Proofs.YtkoihpfgleboiaaDoor.Td
