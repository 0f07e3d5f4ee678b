/-
  The contracts of Next, Open, Make and Bend. Conditions: at most two million bytes.
-/
import Derived.Test.YtnekjbdogdghnaaFRead
import Derived.Lib.AppendZeros
namespace Go.Proofs.Ytnekjbdogdghnaa.Fr
open Go.RowKit

theorem bat_cells {w : World} {A : Option Addr} {n cap : Nat} {l : List Int} (h : BAt w (.slice A n cap) l) {a : Addr} (ha : A = some a) : ∀ j u, (bv l)[j]? = some u → w.cell? (a.add j) = some u := by
  intro j u hu
  have hj : j < n := by have := (List.getElem?_eq_some_iff.1 hu).1; rw [bv_len] at this; have := h.len.1; omega
  obtain ⟨g, o, h1, h2, _⟩ := h.cell j hj
  rw [ha] at h1
  cases h1
  rw [show (Addr.mk g o none).add j = ⟨g, o + j, none⟩ by unfold Addr.add; split <;> simp_all, bv_get hu]
  exact h2
/-- Bytes from anywhere behind a row of the call's own. -/
theorem app_any (w : World) (base : Nat) (v : Value) (l : List Int) (hown : w.ownsRow base 5 1 v l.length (bv l)) (x : Value) (m : List Int) (hx : BAt w x m) (hb : l.length + m.length ≤ 4000000) (hbase : base ≤ w.heap.size) :
    ∃ A cap w', (Builtin.append_ #[37, 37] 37 #[v, x]).run Try.prog w = .ok (.slice A (l.length + m.length) cap) w' ∧ w'.ownsRow base 5 1 (.slice A (l.length + m.length) cap) (l ++ m).length (bv (l ++ m)) ∧ w.grownBy w' v.ownBlock := by
  obtain ⟨i0, hi0, hz0, hz1, hz2⟩ := info_parts u8Inf
  obtain ⟨A, cap, rfl, _, hc⟩ := id hx
  cases A with
  | none =>
    have h0 : m = [] := by
      cases m with
      | nil => rfl
      | cons y r => obtain ⟨g, o, h1, _⟩ := hc (by simp); cases h1
    subst h0
    obtain ⟨A1, c1, h1, _⟩ := BAt.of_own hown
    refine ⟨A1, c1, w, ?_, ?_, grownBy_refl _ _⟩
    · show _ = Result.ok (Value.slice A1 l.length c1) w
      rw [← h1]
      rcases hown.2 with ⟨h4, _⟩ | ⟨g, cap3, cur, h4, _, _, hnc, _⟩
      · rw [h4]
        simp [Builtin.append_, run_underlying Try.underlying37, sizeOf, typeInfo, hi0, Builtin.lenOf, Builtin.firstCells]
      · rw [h4]
        simp [Builtin.append_, run_underlying Try.underlying37, sizeOf, typeInfo, hi0, Builtin.lenOf, Builtin.firstCells, hnc, storeCells]
    · rw [h1] at hown
      rw [List.append_nil]
      exact hown
  | some a =>
    obtain ⟨v', w', hr, ho, hg, _⟩ := run_append_own (P := Try.prog) w base 37 37 5 i0 (.int .u8 0) 1 1 Try.underlying37 hi0 hz0 hz1 hz2 rfl (by decide) v l.length (bv l) hown a m.length cap (bv m) (by rw [bv_len, Nat.mul_one]) (bat_cells hx rfl) (bv_one _) (by unfold maxLen; omega) (by omega) hbase
    rw [← bv_app] at ho
    have ho2 : w'.ownsRow base 5 1 v' (l ++ m).length (bv (l ++ m)) := by rw [List.length_append]; exact ho
    obtain ⟨A1, c1, h1, _⟩ := BAt.of_own ho2
    rw [List.length_append] at h1
    subst h1
    exact ⟨A1, c1, w', hr, ho2, hg⟩

/-- What Open tells. -/
def Opn (l : List Int) (e : Ending) (w' : World) : Prop := ∃ A c, e = .returned (.tuple #[.slice A (opB l).length c, .int .i64 (opE l)]) ∧ BAt w' (.slice A (opB l).length c) (opB l)
end Go.Proofs.Ytnekjbdogdghnaa.Fr
