/-
  The contract of the laws' word known: the chapter's example answers true. Conditions: none.
-/
import Derived.Test.YtflhpijcfiamgaaTOfIs
import Derived.Test.YtflhpijcfiamgaaTAtIs
namespace Go.Proofs.Ytflhpijcfiamgaa.Tb
open Go.RowKit Go.Sort

def sA : ByteArray := ⟨#[97]⟩
def sC : ByteArray := ⟨#[99]⟩
def sD : ByteArray := ⟨#[100]⟩
def exIn : List (Int × ByteArray) := [(3, sC), (1, sA), (3, sD)]
def exOut : List (Int × ByteArray) := [(1, sA), (3, sD)]
theorem ex_put : putAll exIn = exOut := by
  simp [putAll, exIn, exOut, putL, pl, hasB, ltI]
theorem ex_pl : pl exOut 1 = 0 := by simp [pl, exOut, ltI]
theorem ex_get : Is.getL exOut 1 = sA := by
  unfold Is.getL
  rw [ex_pl]
  simp [exOut]
theorem ex_has : hasB exOut 1 = true := by
  unfold hasB
  rw [ex_pl]
  simp [exOut]
theorem ex_asc : asc exOut := by
  rw [← ex_put]; exact asc_putAll _

set_option maxRecDepth 100000 in
set_option maxHeartbeats 2000000 in
theorem known_any (w : World) : Calls Try.prog 22 #[] w fun e w' => e = .returned (.bool true) ∧ Below w.heap.size w w' := by
  have hl : Hid (Is.RowsR (w.alloc (.cells #[.int .i64 3, .string sC, .int .i64 1, .string sA, .int .i64 3, .string sD] 80)) (.slice (some ⟨w.heap.size, 0, none⟩) 3 3) exIn) := by
    refine ⟨some ⟨w.heap.size, 0, none⟩, 3, rfl, Nat.le_refl _, fun e => (by cases e), .inr ⟨w.heap.size, 0, rfl, by simp, fun i r hi => ?_⟩⟩
    have hb := block_new w (.cells #[.int .i64 3, .string sC, .int .i64 1, .string sA, .int .i64 3, .string sD] 80)
    match i with
    | 0 => simp [exIn] at hi; subst hi; exact ⟨cell_of_row _ _ _ _ _ _ hb, cell_of_row _ _ _ _ _ _ hb⟩
    | 1 => simp [exIn] at hi; subst hi; exact ⟨cell_of_row _ _ _ _ _ _ hb, cell_of_row _ _ _ _ _ _ hb⟩
    | 2 => simp [exIn] at hi; subst hi; exact ⟨cell_of_row _ _ _ _ _ _ hb, cell_of_row _ _ _ _ _ _ hb⟩
    | i + 3 => simp [exIn] at hi
  have hof := Is.of_any 19 Is.sortOK_small _ _ exIn hl.out (by decide) (by decide)
  rw [ex_put] at hof
  have HOF := Lib.hid hof
  clear hof hl
  unfold sA sC sD at *
  go_enter Try.func22, Try.ntmps22
  go_wp2_with (go_at_call 43; refine HOF.out.mono ?_; rintro e w1 ⟨tb, rfl, ht, hb1⟩)
  have h1 := ht.read
  have HB1 := Lib.hid hb1
  have s1 := hb1.size
  simp at s1
  clear ht hb1 HOF
  have C1 : Hid (∀ W, Below w1.heap.size w1 W → Calls Try.prog 44 #[.pointer (some ⟨tb, 0, none⟩), .int .i64 1] W fun e w' => e = .returned (.tuple #[.agg #[.int .i64 3, .string ⟨#[100]⟩], .bool true]) ∧ Below W.heap.size W w') := fun W hW => Is.at_some W _ _ 1 (3, sD) (h1.below hW) (by decide) rfl
  have C2 : Hid (∀ W, Below w1.heap.size w1 W → Calls Try.prog 44 #[.pointer (some ⟨tb, 0, none⟩), .int .i64 2] W fun e w' => e = .returned (.tuple #[.agg #[.int .i64 0, .string ByteArray.empty], .bool false]) ∧ Below W.heap.size W w') := fun W hW => Is.at_none W _ _ 2 (h1.below hW) (by decide) (by right; decide)
  have C3 : Hid (∀ W, Below w1.heap.size w1 W → Calls Try.prog 45 #[.pointer (some ⟨tb, 0, none⟩), .int .i64 1] W fun e w' => e = .returned (.tuple #[.string ⟨#[97]⟩, .bool true]) ∧ Below W.heap.size W w') := fun W hW => by
    have := Is.get_any W _ _ 1 (h1.below hW) ex_asc (by decide)
    rw [ex_get, ex_has] at this
    exact this
  have C4 : Hid (∀ W, Below w1.heap.size w1 W → Calls Try.prog 46 #[.pointer (some ⟨tb, 0, none⟩)] W fun e w' => e = .returned (.int .i64 2) ∧ W = w') := fun W hW => Is.len_any W _ _ (h1.below hW) (by decide)
  clear h1
  go_wp2_with fail
  refine (C1.out _ (Below.refl _ _)).mono ?_
  rintro e w2 ⟨rfl, k2⟩
  have K2 := Lib.hid k2
  have z2 := k2.size
  clear k2 C1
  go_wp2_with fail
  have b2 := block_new w2 (.cells #[.int .i64 3, .string ⟨#[100]⟩] 80)
  have K3 : Hid (Below w1.heap.size w1 (w2.alloc (.cells #[.int .i64 3, .string ⟨#[100]⟩] 80))) := K2.out.alloc z2 _
  have z3 : (w2.alloc (.cells #[.int .i64 3, .string ⟨#[100]⟩] 80)).heap.size = w2.heap.size + 1 := by simp
  generalize w2.alloc (.cells #[.int .i64 3, .string ⟨#[100]⟩] 80) = W3 at b2 K3 z3 ⊢
  have B2 := Lib.hid b2
  have z4 : w2.heap.size < W3.heap.size := by omega
  clear b2 z3 K2
  refine (C2.out _ K3.out).mono ?_
  rintro e w4 ⟨rfl, k4⟩
  have K4 := Lib.hid k4
  have z5 := k4.size
  clear k4 C2
  go_wp2_with fail
  have K5 : Hid (Below w1.heap.size w1 (w4.alloc (.cells #[.int .i64 0, .string ByteArray.empty] 80))) := (K3.out.trans (K4.out.mono (by omega))).alloc (by omega) _
  have B5 : Hid ((w4.alloc (.cells #[.int .i64 0, .string ByteArray.empty] 80)).heap[w2.heap.size]? = some (.cells #[.int .i64 3, .string ⟨#[100]⟩] 80)) := block_old (block_kept B2.out K4.out) _
  generalize w4.alloc (.cells #[.int .i64 0, .string ByteArray.empty] 80) = W5 at K5 B5 ⊢
  clear K4 B2 K3
  refine (C3.out _ K5.out).mono ?_
  rintro e w6 ⟨rfl, k6⟩
  have hb6 := block_kept B5.out k6
  have c1 : w6.cell? ⟨w2.heap.size, 0, none⟩ = some (.int .i64 3) := cell_of_row _ _ _ _ _ _ hb6
  have c2 : w6.cell? ⟨w2.heap.size, 1, none⟩ = some (.string ⟨#[100]⟩) := cell_of_row _ _ _ _ _ _ hb6
  have K6 : Hid (Below w1.heap.size w1 w6) := K5.out.trans (k6.mono K5.out.size)
  clear k6 hb6 C3 K5 B5
  go_wp2_with (go_at_call 46; refine (C4.out _ K6.out).mono ?_; rintro e w7 ⟨rfl, rfl⟩)
  go_ret
  exact ⟨rfl, (((Below.refl _ _).alloc (Nat.le_refl _) _).trans (HB1.out.mono (by simp))).trans (K6.out.mono (by omega))⟩
end Go.Proofs.Ytflhpijcfiamgaa.Tb
