/-
  The contract of At. Conditions: at most a thousand rows.
-/
import Derived.Test.YtflhpijcfiamgaaTGetIi
namespace Go.Proofs.Ytflhpijcfiamgaa.Tb.Ii
open Go.RowKit

set_option maxRecDepth 100000 in
set_option maxHeartbeats 1000000 in
theorem at_none (w : World) (p : Option Addr) (l : List R) (i : Int) (h : TabR w p l) (hn : l.length ≤ 1000) (hi : i < 0 ∨ l.length ≤ i) :
    Calls Try.prog 26 #[.pointer p, .int .i64 i] w fun e w' => e = .returned (.tuple #[.agg #[ek zk, ev zv], .bool false]) ∧ Below w.heap.size w w' := by
  have HH := Lib.hid h
  clear h
  rcases Int.lt_or_le i 0 with h0 | h0
  · go_enter Try.func26, Try.ntmps26
    go_wp2
    exact bodyPost_ret (v := .tuple #[.agg #[ek zk, ev zv], .bool false]) (by simp [results, Try.results26, go_sem, ek, ev, zk, zv]; try rfl) rfl ⟨rfl, (Below.refl _ _).alloc (Nat.le_refl _) _⟩
  · have h1 : (l.length : Int) ≤ i := by omega
    clear hi
    go_enter Try.func26, Try.ntmps26
    go_wp2_with (go_at_call 18; refine (len_any _ _ _ (HH.out.below ((Below.refl _ _).alloc (Nat.le_refl _) _)) hn).mono ?_; rintro e w' ⟨rfl, rfl⟩)
    exact bodyPost_ret (v := .tuple #[.agg #[ek zk, ev zv], .bool false]) (by simp [results, Try.results26, go_sem, ek, ev, zk, zv]; try rfl) rfl ⟨rfl, (Below.refl _ _).alloc (Nat.le_refl _) _⟩
set_option maxRecDepth 100000 in
set_option maxHeartbeats 1000000 in
theorem at_some (w : World) (p : Option Addr) (l : List R) (i : Nat) (r : R) (h : TabR w p l) (hn : l.length ≤ 1000) (hi : l[i]? = some r) :
    Calls Try.prog 26 #[.pointer p, .int .i64 i] w fun e w' => e = .returned (.tuple #[.agg #[ek r.1, ev r.2], .bool true]) ∧ Below w.heap.size w w' := by
  have hlt : i < l.length := (List.getElem?_eq_some_iff.1 hi).1
  have HL := Lib.hid (len_any _ _ _ (h.below ((Below.refl _ _).alloc (Nat.le_refl _) (.cells #[ek zk, ev zv] 55))) hn)
  rcases h with ⟨rfl, rfl⟩ | ⟨b, v, rfl, hbl, hc, hr⟩
  · simp at hi
  · obtain ⟨A, cap, rfl, _, _, h3⟩ := hr
    rcases h3 with ⟨rfl, rfl⟩ | ⟨g, o, rfl, hg0, hcell⟩
    · simp at hi
    have hce := hcell _ _ hi
    have c1 := hce.1
    have c2 := hce.2
    clear hce hcell hi
    unfold ek at c1
    unfold ev at c2
    go_enter Try.func26, Try.ntmps26
    go_wp2_with (go_at_call 18; refine HL.out.mono ?_; rintro e w' ⟨rfl, rfl⟩)
    exact bodyPost_ret (v := .tuple #[.agg #[ek r.1, ev r.2], .bool true]) (by simp [results, Try.results26, go_sem, ek, ev]) rfl ⟨rfl, (Below.refl _ _).alloc (Nat.le_refl _) _⟩
end Go.Proofs.Ytflhpijcfiamgaa.Tb.Ii
