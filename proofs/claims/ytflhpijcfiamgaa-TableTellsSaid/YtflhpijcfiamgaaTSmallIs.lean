/-
  The stable sort of fewer than 20 rows, and of none. Conditions: the row is held.
-/
import Derived.Test.YtflhpijcfiamgaaTInsIs
namespace Go.Proofs.Ytflhpijcfiamgaa.Tb.Is
open Go.RowKit Go.Sort

set_option maxRecDepth 100000 in
theorem ins_none (A : Option Addr) (cap : Nat) (f : Value) (w : World) : Calls Try.prog 93 #[.slice A 0 cap, .int .i64 0, .int .i64 0, f] w fun e w' => e = .returned (.tuple #[]) ∧ w = w' := by
  go_enter Try.func93, Try.ntmps93
  go_wp2
  refine wp_loop_rounds 1 ?_
  rw [rounds_succ]
  go_wp2
  go_end0
  exact ⟨rfl, rfl⟩
set_option maxRecDepth 100000 in
theorem stable_none (A : Option Addr) (cap : Nat) (f : Value) (w : World) : Calls Try.prog 89 #[.slice A 0 cap, .int .i64 0, f] w fun e w' => e = .returned (.tuple #[]) ∧ w = w' := by
  go_enter Try.func89, Try.ntmps89
  go_wp2
  refine wp_loop_rounds 1 ?_
  rw [rounds_succ]
  go_wp2_with (go_at_call 93; refine (ins_none A cap f _).mono ?_; rintro e w' ⟨rfl, rfl⟩)
  refine wp_loop_rounds 1 ?_
  rw [rounds_succ]
  go_wp2
  go_end0
  exact ⟨rfl, rfl⟩
set_option maxRecDepth 100000 in
theorem sort_none (A : Option Addr) (cap : Nat) (f : Value) (w : World) : Calls Try.prog 81 #[.slice A 0 cap, f] w fun e w' => e = .returned (.tuple #[]) ∧ w = w' := by
  go_enter Try.func81, Try.ntmps81
  go_wp2_with (go_at_call 89; refine (stable_none A cap f _).mono ?_; rintro e w' ⟨rfl, rfl⟩)
  go_end0
  exact ⟨rfl, rfl⟩

/-- What the stable sort leaves. -/
def Sorted (w : World) (g off : Nat) (l : List R) (w' : World) : Prop := ∃ d : Array R, d.size = l.length ∧ Stab l d.toList ∧ SWK enc 2 w g off d w'

set_option maxRecDepth 100000 in
set_option maxHeartbeats 1000000 in
theorem stable_small (w : World) (g off cap : Nat) (l : List R) (hH : HoldsK enc 2 w g off l.toArray) (hg : g < w.heap.size) (hn : l.length < 20) :
    Calls Try.prog 89 #[.slice (some ⟨g, off, none⟩) l.length cap, .int .i64 l.length, .func (.func 82) #[] #[]] w fun e w' => e = .returned (.tuple #[]) ∧ Sorted w g off l w' := by
  have hi := ins_any w w g off cap 0 l.toArray.size l.toArray l.toArray (SWK.start hH) hH rfl hg (Nat.zero_le _) (Nat.le_refl _) (by simp; omega)
  simp only [List.size_toArray] at hi
  have hi2 := hi.mono (R' := fun e w' => e = .returned (.tuple #[]) ∧ Sorted w g off l w') fun e w' ⟨h1, h2⟩ => ⟨h1, by
    have hst := stab_insertion l.toArray
    simp only [List.size_toArray] at hst
    exact ⟨_, by rw [size_insertion _ _ _ (Nat.zero_le _) (by simp)]; simp, hst, h2⟩⟩
  have HI := Lib.hid hi2
  clear hi hi2 hH
  go_enter Try.func89, Try.ntmps89
  go_wp2
  refine wp_loop_rounds 1 ?_
  rw [rounds_succ]
  go_wp2_with (go_at_call 93; refine HI.out.mono ?_; rintro e w' ⟨rfl, hs⟩)
  have HS := Lib.hid hs
  clear hs
  refine wp_loop_rounds 1 ?_
  rw [rounds_succ]
  go_wp2
  all_goals first | (exfalso; omega) | (go_end0; exact ⟨rfl, HS.out⟩)
set_option maxRecDepth 100000 in
theorem sort_small (w : World) (g off cap : Nat) (l : List R) (hH : HoldsK enc 2 w g off l.toArray) (hg : g < w.heap.size) (hn : l.length < 20) :
    Calls Try.prog 81 #[.slice (some ⟨g, off, none⟩) l.length cap, .func (.func 82) #[] #[]] w fun e w' => e = .returned (.tuple #[]) ∧ Sorted w g off l w' := by
  have HI := Lib.hid (stable_small w g off cap l hH hg hn)
  clear hH
  go_enter Try.func81, Try.ntmps81
  go_wp2_with (go_at_call 89; refine HI.out.mono ?_; rintro e w' ⟨rfl, hs⟩)
  have HS := Lib.hid hs
  clear hs
  go_end0
  exact ⟨rfl, HS.out⟩
end Go.Proofs.Ytflhpijcfiamgaa.Tb.Is
