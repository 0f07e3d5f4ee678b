/-
  The first rows of the reference's, as a slice that is read. Conditions: at most so many as there are.
-/
import Derived.Test.YtflhpijcfiamgaaTSam2
namespace Go.Proofs.Ytflhpijcfiamgaa.Tb.Rf
open Go.RowKit
open Ii (cells cells_len cells_get cells_one cells_append cells_cons cells_inv getL)

theorem slice_to (A : Option Addr) (n cap q : Nat) (h : q ≤ cap) : ∃ A', (A' = A ∨ ∃ g o f, A = some ⟨g, o, f⟩ ∧ A' = some ⟨g, o, f⟩) ∧ ∀ W : World, (Instr.slice 28 (.slice A n cap) none (some (.int .i64 (q : Int))) none).run Try.prog W = .ok (.slice A' q cap) W := by
  refine ⟨A, .inl rfl, fun W => ?_⟩
  cases A with
  | none => simp [Instr.slice, Instr.sliceBounds, Instr.sliceBound, asIntOf, run_underlying Try.underlying28, h]
  | some a =>
    obtain ⟨g, o, f⟩ := a
    simp [Instr.slice, Instr.sliceBounds, Instr.sliceBound, asIntOf, run_underlying Try.underlying28, h]
    try (unfold Addr.add; simp)
/-- The first q rows. -/
theorem rd_upto (w : World) (base : Nat) (v : Value) (l : List R) (h : w.ownsRow base 53 2 v l.length (cells l)) (q : Nat) (hq : q ≤ l.length) :
    ∃ A cap, v = .slice A l.length cap ∧ ∃ v', RdR w v' (l.take q) ∧ ∀ W, (Instr.slice 28 (.slice A l.length cap) none (some (.int .i64 (q : Int))) none).run Try.prog W = .ok v' W := by
  have hr := RdR.of_own h
  rcases Go.Joins.ownsRow_forms h with ⟨rfl, h0⟩ | ⟨g, cap, rfl⟩
  · obtain ⟨A', _, hrun⟩ := slice_to none 0 0 q (by omega)
    have hq0 : q = 0 := by omega
    subst hq0
    exact ⟨none, 0, by rw [h0], .slice A' 0 0, ⟨A', 0, by simp, fun hp => absurd hp (by simp)⟩, by rw [h0]; exact hrun⟩
  · have hcap := own_cap h
    obtain ⟨A', hA', hrun⟩ := slice_to (some ⟨g, 0, none⟩) l.length cap q (by omega)
    obtain rfl : A' = some ⟨g, 0, none⟩ := by
      rcases hA' with h | ⟨g1, o1, f1, h1, h2⟩
      · exact h
      · rw [h2, ← h1]
    refine ⟨_, cap, rfl, _, ⟨some ⟨g, 0, none⟩, cap, by rw [List.length_take, Nat.min_eq_left hq], fun h0 => ?_⟩, hrun⟩
    rw [List.length_take] at h0
    obtain ⟨A2, c2, he, h2⟩ := hr
    simp only [Value.slice.injEq] at he
    obtain ⟨rfl, _, rfl⟩ := he
    obtain ⟨g1, o1, he, hg, hcell⟩ := h2 (by omega)
    refine ⟨g1, o1, he, hg, fun i r hr => ?_⟩
    rw [List.getElem?_take] at hr
    split at hr
    · exact hcell i r hr
    · cases hr
end Go.Proofs.Ytflhpijcfiamgaa.Tb.Rf
