/-
  The reference's Check, whatever the kind. Conditions: none.
-/
import Derived.Test.YteahloddjekakaaDoorNRCk
import Derived.Test.YteahloddjekakaaDoorNTo0
namespace Go.Proofs.YteahloddjekakaaDoor.Nt
open Go.RowKit Td

set_option maxRecDepth 100000 in
set_option maxHeartbeats 1000000 in
theorem rcheck_no (w : World) (x : Nt) (A : Option Addr) (n c : Nat) (hk : isK x.k = false) : Calls Tryd.prog 11 #[.agg #[.int .i64 x.k, .int .i64 x.p, .int .i64 x.d, .int .i64 x.t.n, .string x.t.b, .string x.t.s, .string x.t.i, .int .i64 x.t.q, .int .i64 x.t.p, .string x.n, .int .i64 x.a, .slice A n c, .int .i64 x.hi, .int .u64 x.lo]] w fun e w' => e = .returned (.int .i64 1) ∧ Below w.heap.size w w' := by
  have hs : whatS x.k = ⟨#[63]⟩ := by unfold whatS; rw [hk]; rfl
  have HW := Lib.hid fun W => what_any W x.k (Lib.hid hs.symm)
  have HX0 := Lib.hid (block_new w (.cells #[.int .i64 x.k, .int .i64 x.p, .int .i64 x.d, .int .i64 x.t.n, .string x.t.b, .string x.t.s, .string x.t.i, .int .i64 x.t.q, .int .i64 x.t.p, .string x.n, .int .i64 x.a, .slice A n c, .int .i64 x.hi, .int .u64 x.lo] 27))
  have HB0 : Hid (Below w.heap.size w (w.alloc (.cells #[.int .i64 x.k, .int .i64 x.p, .int .i64 x.d, .int .i64 x.t.n, .string x.t.b, .string x.t.s, .string x.t.i, .int .i64 x.t.q, .int .i64 x.t.p, .string x.n, .int .i64 x.a, .slice A n c, .int .i64 x.hi, .int .u64 x.lo] 27))) := Lib.hid ((Below.refl _ _).alloc (Nat.le_refl _) _)
  have x0 := (blk14 HX0.out).1.1
  clear hs hk
  go_enter Tryd.func11, Tryd.ntmps11
  go_wp2_with (go_at_call 33; (with_reducible refine (HW.out _).mono ?_); rintro e w1 ⟨rfl, hb⟩; have HB := Lib.hid (HB0.out.trans (hb.mono HB0.out.size)); clear hb)
  go_ret
  exact ⟨rfl, HB.out⟩
theorem wh_q (s : ByteArray) (h : (s.data.toList == [63]) = false) : (s.toList == [63]) = false := by
  obtain ⟨d⟩ := s
  rw [toList_data']
  exact h
theorem whatS_q {k : Int} (hk : isK k = true) : ((whatS k).toList == [63]) = false := by
  obtain ⟨m, rfl, h1, h2⟩ := isK_yes hk
  have hm : m = 1 ∨ m = 2 ∨ m = 3 ∨ m = 4 ∨ m = 5 ∨ m = 6 ∨ m = 7 ∨ m = 8 ∨ m = 9 ∨ m = 10 ∨ m = 11 ∨ m = 12 := by omega
  rcases hm with rfl | rfl | rfl | rfl | rfl | rfl | rfl | rfl | rfl | rfl | rfl | rfl <;> (unfold whatS; rw [if_pos (by decide)]; exact wh_q _ (by decide))
/-- The reference tells what the program tells. -/
theorem rcheck_all (w : World) (x : Nt) (A : Option Addr) (n c : Nat) (l : List Rw) (hl : Hid (RR w A l)) (hn : Hid (n = l.length)) (hs : Hid (SmN x l)) {r : Int} (hr : Hid (r = chkN x l)) : Calls Tryd.prog 11 #[.agg #[.int .i64 x.k, .int .i64 x.p, .int .i64 x.d, .int .i64 x.t.n, .string x.t.b, .string x.t.s, .string x.t.i, .int .i64 x.t.q, .int .i64 x.t.p, .string x.n, .int .i64 x.a, .slice A n c, .int .i64 x.hi, .int .u64 x.lo]] w fun e w' => e = .returned (.int .i64 r) ∧ Below w.heap.size w w' := by
  cases hk : isK x.k
  · obtain rfl : r = 1 := by rw [hr.out]; unfold chkN; rw [hk]; rfl
    exact rcheck_no w x A n c hk
  · exact rcheck_any w x A n c l hl hn hs (whatS_q hk) (by show _ = _; rw [hr.out, ← chkQ_eq x l hk, hn.out])
theorem sm_cut (x : Nt) (l : List Rw) : SmN (cutN x) (cutR l) := by
  refine ⟨⟨?_, ?_, ?_⟩, ?_, ?_, fun m hm => ?_⟩
  · have := cut40_size x.t.b; show (cut40 x.t.b).size ≤ _; omega
  · have := cut40_size x.t.s; show (cut40 x.t.s).size ≤ _; omega
  · have := cut40_size x.t.i; show (cut40 x.t.i).size ≤ _; omega
  · have := cut40_size x.n; show (cut40 x.n).size ≤ _; omega
  · rw [cutR_len]; omega
  · unfold cutR at hm
    obtain ⟨q, _, rfl⟩ := List.mem_map.1 hm
    have := cut40_size q.1
    show (cut40 q.1).size ≤ _; omega
end Go.Proofs.YteahloddjekakaaDoor.Nt
