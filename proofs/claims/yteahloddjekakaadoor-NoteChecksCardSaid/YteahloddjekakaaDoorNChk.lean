/-
  The contract of Check. Conditions: the table of kinds lies as the program's text lays it; names of at most 100000 bytes, at most a thousand rows.
-/
import Derived.Test.YteahloddjekakaaDoorNChkA
import Derived.Test.YteahloddjekakaaDoorNChkB
import Derived.Test.YteahloddjekakaaDoorNChkC
import Derived.Test.YteahloddjekakaaDoorNChkD
namespace Go.Proofs.YteahloddjekakaaDoor.Nt
open Go.RowKit Td

set_option maxRecDepth 100000 in
set_option maxHeartbeats 1000000 in
theorem check_no (w : World) (x : Nt) (A : Option Addr) (n c : Nat) (hb : isK x.k = false) :
    Calls Tryd.prog 10 #[.agg #[.int .i64 x.k, .int .i64 x.p, .int .i64 x.d, .int .i64 x.t.n, .string x.t.b, .string x.t.s, .string x.t.i, .int .i64 x.t.q, .int .i64 x.t.p, .string x.n, .int .i64 x.a, .slice A n c, .int .i64 x.hi, .int .u64 x.lo]] w fun e w' => e = .returned (.int .i64 1) ∧ Below w.heap.size w w' := by
  have E1 := block_new w (.cells #[.int .i64 x.k, .int .i64 x.p, .int .i64 x.d, .int .i64 x.t.n, .string x.t.b, .string x.t.s, .string x.t.i, .int .i64 x.t.q, .int .i64 x.t.p, .string x.n, .int .i64 x.a, .slice A n c, .int .i64 x.hi, .int .u64 x.lo] 33)
  have HB0 : Hid (Below w.heap.size w (w.alloc (.cells #[.int .i64 x.k, .int .i64 x.p, .int .i64 x.d, .int .i64 x.t.n, .string x.t.b, .string x.t.s, .string x.t.i, .int .i64 x.t.q, .int .i64 x.t.p, .string x.n, .int .i64 x.a, .slice A n c, .int .i64 x.hi, .int .u64 x.lo] 33))) := (Below.refl _ _).alloc (Nat.le_refl _) _
  have x0 := (blk14 E1).1.1
  have HI := Lib.hid fun W => isKind_any W x.k (Lib.hid hb.symm)
  clear E1 hb
  go_enter Tryd.func10, Tryd.ntmps10
  go_upto_region 1 with fail
  generalize w.alloc _ = W0 at x0 HB0 ⊢
  go_wp2_with (go_at_call 25; (with_reducible refine (HI.out _).mono ?_); rintro e w1 ⟨rfl, rfl⟩)
  go_ret
  exact ⟨rfl, HB0.out⟩
theorem check_any (w : World) (hk : KinC w) (x : Nt) (A : Option Addr) (n c : Nat) (l : List Rw) (hl : Hid (RR w A l)) (hn : Hid (n = l.length)) (hs : Hid (SmN x l)) {r : Int} (hr : Hid (r = chkN x l)) :
    Calls Tryd.prog 10 #[.agg #[.int .i64 x.k, .int .i64 x.p, .int .i64 x.d, .int .i64 x.t.n, .string x.t.b, .string x.t.s, .string x.t.i, .int .i64 x.t.q, .int .i64 x.t.p, .string x.n, .int .i64 x.a, .slice A n c, .int .i64 x.hi, .int .u64 x.lo]] w fun e w' => e = .returned (.int .i64 r) ∧ Below w.heap.size w w' := by
  cases hb : isK x.k
  · obtain rfl : r = 1 := by rw [hr.out]; unfold chkN; rw [hb]; rfl
    exact check_no w x A n c hb
  · obtain ⟨m, hm, h1, h2⟩ := isK_yes hb
    have hr2 : r = if fitB m x n = true then orL (errL m x l) else 1 := by rw [hr.out]; unfold chkN; rw [if_pos hb, hm, Int.toNat_natCast, ← hn.out]
    cases H4 : ka m
    · cases H0 : kp m
      · exact check_b w hk x A n c l hl hn hs m hm h1 h2 hr2 H4 H0
      · cases HP : decide (0 ≤ x.p)
        · exact check_c w hk x A n c l hl hn hs m hm h1 h2 hr2 H4 H0 HP
        · exact check_d w hk x A n c l hl hn hs m hm h1 h2 hr2 H4 H0 HP
    · exact check_a w hk x A n c l hl hn hs m hm h1 h2 hr2 H4
end Go.Proofs.YteahloddjekakaaDoor.Nt
