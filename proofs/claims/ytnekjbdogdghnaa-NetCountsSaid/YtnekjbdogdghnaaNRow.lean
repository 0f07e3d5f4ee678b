/-
  A row of slices of one's own bytes that may be written. Conditions: none.
-/
import Derived.Test.YtnekjbdogdghnaaNOp4
import Derived.Lib.AppendZeros
namespace Go.Proofs.Ytnekjbdogdghnaa.Ne
open Go.RowKit Go.Conc Bx
open Fr (BAt bok bv)

theorem own_below {w w' : World} {base n : Nat} {e : TypeId} {size : Nat} {v : Value} {xs : List Value} (h : w.ownsRow base e size v n xs) (hb : Below w.heap.size w w') : w'.ownsRow base e size v n xs := by
  obtain ⟨h1, h2⟩ := h
  refine ⟨h1, ?_⟩
  rcases h2 with h2 | ⟨g, cap, cur, rfl, hg, hh, h5⟩
  · exact .inl h2
  · exact .inr ⟨g, cap, cur, rfl, hg, block_kept hh hb, h5⟩
theorem own_form {w : World} {base n : Nat} {e : TypeId} {size : Nat} {v : Value} {xs : List Value} (h : w.ownsRow base e size v n xs) : ∃ A cap, v = .slice A n cap ∧ n ≤ cap := by
  rcases h.2 with ⟨h1, h2⟩ | ⟨g, cap, cur, h1, _, _, h4, _⟩
  · exact ⟨none, 0, by rw [h1, h2], by omega⟩
  · exact ⟨_, cap, h1, h4⟩
theorem own_mono {w : World} {base base' n : Nat} {e : TypeId} {size : Nat} {v : Value} {xs : List Value} (h : w.ownsRow base e size v n xs) (hb : base' ≤ base) : w.ownsRow base' e size v n xs := by
  obtain ⟨h1, h2⟩ := h
  refine ⟨h1, ?_⟩
  rcases h2 with h2 | ⟨g, cap, cur, rfl, hg, h5⟩
  · exact .inl h2
  · exact .inr ⟨g, cap, cur, rfl, by omega, h5⟩
/-- A row of slices of one's own bytes, from B on. -/
structure BoX (B : Nat) (W : World) (v : Value) (vs : List Value) (ls : List (List Int)) : Prop where
  own : W.ownsRow B 37 1 v vs.length vs
  len : vs.length = ls.length
  at_ : ∀ (j : Nat) (u : Value) (l : List Int), vs[j]? = some u → ls[j]? = some l → WB B W u l
theorem BoX.nil (B : Nat) (w : World) : BoX B w (.slice none 0 0) [] [] := ⟨World.ownsRow_nil _ _ _ _, rfl, fun j u l h => by simp at h⟩
theorem BoX.below {B : Nat} {w w' : World} {v : Value} {vs : List Value} {ls : List (List Int)} (h : BoX B w v vs ls) (hb : Below w.heap.size w w') : BoX B w' v vs ls := ⟨own_below h.own hb, h.len, fun j u l hu hl => (h.at_ j u l hu hl).below hb⟩
theorem BoX.app {B : Nat} {W W1 : World} {v u : Value} {vs : List Value} {ls : List (List Int)} {l : List Int} (h : BoX B W v vs ls) (hu : WB B W1 u l) (hb : Below W.heap.size W W1) (hB : B ≤ W.heap.size) (hn : ls.length ≤ 5000) :
    ∃ A c W2, (∀ ty, (Builtin.append_ #[33, 33] ty #[v, .slice (some ⟨W1.heap.size, 0, none⟩) 1 1]).run Try.prog (W1.alloc (.cells #[u] 37)) = .ok (.slice A (ls.length + 1) c) W2) ∧ BoX B W2 (.slice A (ls.length + 1) c) (vs ++ [u]) (ls ++ [l]) ∧ Below B W W2 := by
  obtain ⟨i0, hi0, hz0, hz1, hz2⟩ := info_parts Fr.byInf
  have hal : Below W1.heap.size W1 (W1.alloc (.cells #[u] 37)) := (Below.refl _ _).alloc (Nat.le_refl _) _
  have hal2 := hb.trans (hal.mono hb.size)
  have hnew := block_new W1 (.cells #[u] 37)
  have h1 : u.oneCell' = true := hu.one
  have hcell : ∀ j x, ([u] : List Value)[j]? = some x → (W1.alloc (.cells #[u] 37)).cell? ((⟨W1.heap.size, 0, none⟩ : Addr).add j) = some x := by
    intro j x hj
    match j, hj with
    | 0, hj => cases hj; exact (block_cell hnew).1
  have own' := own_below h.own hal2
  have hlen := h.len
  have hrun := fun ty => run_append_own (P := Try.prog) (W1.alloc (.cells #[u] 37)) B 33 ty 37 i0 _ 1 _ Try.underlying33 hi0 hz0 hz1 hz2 (by decide) (by decide) v vs.length vs own' ⟨W1.heap.size, 0, none⟩ 1 1 [u] rfl hcell (fun x hx => by
    simp at hx
    rw [hx]; exact h1) (by unfold maxLen; omega) (by omega) (Nat.le_trans hB hal2.size)
  obtain ⟨v', W2, hr, ho, hg, _⟩ := hrun 33
  have ho2 : W2.ownsRow B 37 1 v' (vs ++ [u]).length (vs ++ [u]) := by rw [List.length_append, List.length_singleton]; exact ho
  obtain ⟨A, c, h2, _⟩ := own_form ho2
  rw [List.length_append, List.length_singleton, hlen] at h2
  subst h2
  have hk : ∀ (k : Nat) (cs : Array Value) (fr : Nat × Nat), (W1.alloc (.cells #[u] 37)).heap[k]? = some (.cells cs 5 fr) → W2.heap[k]? = (W1.alloc (.cells #[u] 37)).heap[k]? := fun k cs fr hk => by
    refine hg.block k (Array.getElem?_eq_some_iff.1 hk).1 (fun e => ?_)
    rcases own'.2 with ⟨h3, _⟩ | ⟨g, cap, cur, h3, _, h4, _⟩
    · rw [h3] at e; cases e
    · rw [h3] at e
      cases e
      rw [h4] at hk
      simp only [Option.some.injEq, Obj.cells.injEq] at hk
      exact absurd hk.2.1 (by decide : ¬ 37 = 5)
  refine ⟨A, c, W2, fun ty => hr, ⟨ho2, by simp [hlen], fun j x y hj hy => ?_⟩, (hal2.mono hB).grown hg (Nat.le_trans hB hal2.size) (fun k hk => (own'.lt k hk).1)⟩
  rcases Nat.lt_or_ge j vs.length with hlt | hge
  · rw [List.getElem?_append_left hlt] at hj
    rw [List.getElem?_append_left (by omega)] at hy
    exact ((h.at_ j x y hj hy).below hal2).keep hk
  · rw [List.getElem?_append_right hge] at hj
    rw [List.getElem?_append_right (by omega)] at hy
    have hj0 : j - vs.length = 0 := by
      have := (List.getElem?_eq_some_iff.1 hj).1
      simp at this; omega
    rw [← hlen, hj0] at hy
    rw [hj0] at hj
    simp at hj hy
    subst hj hy
    exact (hu.below hal).keep hk
end Go.Proofs.Ytnekjbdogdghnaa.Ne
