/-
  Slices of slices of bytes that came in. Conditions: none.
-/
import Derived.Test.YtjijgoflbjbnfaaGreatVM3
import Derived.Test.YtjijgoflbjbnfaaGreatSOpen
namespace Go.Proofs.YtjijgoflbjbnfaaGreat.Fr
open Go.ChangeShapes Go.WideShapes Go.ChangeAt Go.RowKit Go.Joins Go.Deep

theorem rows_list {Q : Nat → List Int → Prop} (m : Nat) (h : ∀ i, i < m → ∃ p, Q i p) : ∃ ps : List (List Int), ps.length = m ∧ ∀ i p, ps[i]? = some p → Q i p := by
  induction m with
  | zero => exact ⟨[], rfl, fun i p hp => by simp at hp⟩
  | succ m ih =>
    obtain ⟨ps, h1, h2⟩ := ih (fun i hi => h i (by omega))
    obtain ⟨p, hp⟩ := h m (by omega)
    refine ⟨ps ++ [p], by simp [h1], fun i q hq => ?_⟩
    rcases Nat.lt_or_ge i ps.length with hi | hi
    · rw [List.getElem?_append_left hi] at hq
      exact h2 i q hq
    · rw [List.getElem?_append_right hi] at hq
      have hi0 : i - ps.length = 0 := by
        rcases Nat.eq_zero_or_pos (i - ps.length) with h0 | h0
        · exact h0
        · rw [List.getElem?_eq_none (by simp; omega)] at hq; cases hq
      rw [hi0] at hq
      have hqp : p = q := by simpa using hq
      subst hqp
      have : i = m := by omega
      subst this
      exact hp
theorem bytes_cellsOf : Tryz.prog.cellsOf 32 = 1 := by kernel_rfl
/-- A slice of slices of bytes that came in. -/
theorem open_rows {H : Type} {enc : TypeId × Value → H} {w : World} {held : Bool} {fuel : Nat} {cs : List Value} {x : DataW H × List MemPlace} (h : DataW.trod enc Tryz.prog w 0 (fun _ => true) held fuel 31 cs = some x) :
    ∃ A len cap, cs = [.slice A len cap] ∧ RIn w A len cap := by
  rcases open_slice Tryz.underlying31 h with h0 | ⟨a, len, cap, m, n, D, Pl, rfl, hb, hl, hm, hmm, rfl, hx⟩
  · exact ⟨none, 0, 0, h0.1, [], ⟨none, 0, rfl, Nat.le_refl _, fun h => absurd h (by decide)⟩, fun l hl => absurd hl (List.not_mem_nil)⟩
  · rw [if_pos rfl] at hmm
    have hcell : ∀ i, i < len → ∃ l : List Int, bok l ∧ ∃ u, w.cell? (a.add i) = some u ∧ BAt w u l := fun i hi => by
      obtain ⟨cs', h1, h2⟩ := hx i (by omega)
      rw [bytes_cellsOf, Nat.mul_one] at h1
      obtain ⟨_, hlen, hcell⟩ := World.cells?_some h1
      obtain ⟨A, n, c, l, h3, h4, h5⟩ := open_bytes h2
      subst h3
      have h6 := hcell 0 (by decide)
      have h7 : (a.add i).add 0 = a.add i := by unfold Addr.add; split <;> simp_all
      rw [h7] at h6
      exact ⟨l, h5, _, h6, h4⟩
    obtain ⟨ls, h1, h2⟩ := rows_list len hcell
    subst h1
    refine ⟨some a, _, cap, rfl, ls, ⟨some a, cap, rfl, hl, fun hp => ?_⟩, fun l hl => ?_⟩
    · obtain ⟨b, off, spot⟩ := a
      obtain ⟨_, _, u, hc, _⟩ := hcell 0 hp
      have hspot : spot = none := by simpa [Addr.add] using World.cell?_spot hc
      subst hspot
      refine ⟨b, off, rfl, ?_, fun i hi => ?_⟩
      · have := World.block_lt_of_cell? _ _ hc
        simpa [Addr.add] using this
      · obtain ⟨_, u, h3, h4⟩ := h2 i _ (List.getElem?_eq_getElem hi)
        rw [show (Addr.mk b off none).add i = ⟨b, off + i, none⟩ by unfold Addr.add; split <;> simp_all] at h3
        refine ⟨u, h3, ?_⟩
        rw [show ls.getD i [] = ls[i] by simp [List.getD, List.getElem?_eq_getElem hi]]
        exact h4
    · obtain ⟨i, hi⟩ := List.mem_iff_getElem?.1 hl
      exact (h2 i l hi).1
end Go.Proofs.YtjijgoflbjbnfaaGreat.Fr
