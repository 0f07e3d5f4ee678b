/-
  FrameSums answers true for all slices of bytes and all bytes. Conditions: none.
-/
import Derived.Test.YtmcoinfdgidblaaFAt
import Derived.Test.YtmcoinfdgidblaaFRef
namespace Go.Proofs.Ytmcoinfdgidblaa.Fr
open Go.RowKit

/-- The first parts, at most 200 bytes of each. -/
def cutR (ls : List (List Int)) (i : Nat) : List (List Int) := (ls.take i).map (·.take 200)
theorem cutR_snoc {ls : List (List Int)} {i : Nat} (h : i < ls.length) : cutR ls (i + 1) = cutR ls i ++ [(ls.getD i []).take 200] := by
  have e : ls.getD i [] = ls[i] := by simp [List.getD, List.getElem?_eq_getElem h]
  unfold cutR
  rw [List.take_succ_eq_append_getElem h, List.map_append, e]
  rfl
theorem cutR_len {ls : List (List Int)} {i : Nat} (h : i ≤ ls.length) : (cutR ls i).length = i := by
  unfold cutR
  rw [List.length_map, List.length_take]; omega
theorem cutR_flat {ls : List (List Int)} {i : Nat} (h : i < ls.length) : (cutR ls (i + 1)).flatten = (cutR ls i).flatten ++ (ls.getD i []).take 200 := by
  rw [cutR_snoc h, List.flatten_append, List.flatten_cons, List.flatten_nil, List.append_nil]
theorem cutR_small (ls : List (List Int)) (i : Nat) (h : i ≤ ls.length) : (cutR ls i).flatten.length ≤ 200 * i := by
  induction i with
  | zero => simp [cutR]
  | succ i ih =>
    rw [cutR_flat (by omega), List.length_append, List.length_take]
    have := ih (by omega)
    omega
theorem cutR_bok {ls : List (List Int)} (h : ∀ l ∈ ls, bok l) (i : Nat) : ∀ l ∈ cutR ls i, bok l ∧ l.length ≤ 2000000 := fun l hl => by
  unfold cutR at hl
  obtain ⟨m, hm, rfl⟩ := List.mem_map.1 hl
  exact ⟨bok_take (h m (List.mem_of_mem_take hm)) _, by rw [List.length_take]; omega⟩
theorem cutR_flat_bok {ls : List (List Int)} (h : ∀ l ∈ ls, bok l) (i : Nat) : bok (cutR ls i).flatten := fun x hx => by
  obtain ⟨l, hl, hx2⟩ := List.mem_flatten.1 hx
  exact (cutR_bok h i l hl).1 x hx2
theorem cutR_get {ls : List (List Int)} {i j : Nat} (hj : j < i) (hi : i ≤ ls.length) : (cutR ls i).getD j [] = (ls.getD j []).take 200 := by
  unfold cutR
  simp only [List.getD, List.getElem?_map]
  rw [List.getElem?_take_of_lt hj, List.getElem?_eq_getElem (by omega : j < ls.length)]
  rfl

theorem ownsRow_kept {w w' : World} {base : Nat} {e : TypeId} {size n : Nat} {v : Value} {xs : List Value} (h : w.ownsRow base e size v n xs) (hk : ∀ g, v.ownBlock = some g → w'.heap[g]? = w.heap[g]?) : w'.ownsRow base e size v n xs := by
  obtain ⟨h1, h2 | ⟨g, cap, cur, h2, h3, h4, h5⟩⟩ := h
  · exact ⟨h1, .inl h2⟩
  · exact ⟨h1, .inr ⟨g, cap, cur, h2, h3, (hk g (by rw [h2]; rfl)).trans h4, h5⟩⟩
/-- Two rows of the call's own: the parts, and all bytes. -/
structure SmI (w : World) (ls : List (List Int)) (i : Nat) (us : List Value) (v5 v6 : Value) (wx : World) : Prop where
  len : us.length = i
  own : wx.ownsRow w.heap.size 23 1 v5 i us
  at' : ∀ j u, us[j]? = some u → BAt w u ((ls.getD j []).take 200)
  all : wx.ownsRow w.heap.size 5 1 v6 (cutR ls i).flatten.length (bv (cutR ls i).flatten)
  bel : Below w.heap.size w wx
theorem own_apart {w : World} {base base' : Nat} {e e' : TypeId} {size size' n n' : Nat} {v v' : Value} {xs xs' : List Value} (h : w.ownsRow base e size v n xs) (h' : w.ownsRow base' e' size' v' n' xs') (hne : e ≠ e') : ∀ g, v'.ownBlock = some g → v.ownBlock ≠ some g := by
  intro g hg hh
  rcases h.2 with ⟨h1, _⟩ | ⟨g1, _, _, h1, _, h2, _⟩
  · rw [h1] at hh; cases hh
  · rcases h'.2 with ⟨h3, _⟩ | ⟨g2, _, _, h3, _, h4, _⟩
    · rw [h3] at hg; cases hg
    · rw [h1] at hh; rw [h3] at hg
      cases hh; cases hg
      rw [h2] at h4
      cases h4
      exact hne rfl
theorem tys_ne : (23 : TypeId) ≠ 5 := by decide
/-- The parts' row has grown. -/
theorem SmI.rows1 {w wx w1 : World} {ls : List (List Int)} {i : Nat} {us : List Value} {v5 v6 v : Value} {u : Value} {o : Obj} (h : SmI w ls i us v5 v6 wx) (hu : BAt w u ((ls.getD i []).take 200)) (hown : w1.ownsRow w.heap.size 23 1 v (i + 1) (us ++ [u])) (hg : (wx.alloc o).grownBy w1 v5.ownBlock) :
    (us ++ [u]).length = i + 1 ∧ (∀ j u', (us ++ [u])[j]? = some u' → BAt w u' ((ls.getD j []).take 200)) ∧ w1.ownsRow w.heap.size 5 1 v6 (cutR ls i).flatten.length (bv (cutR ls i).flatten) ∧ Below w.heap.size w w1 := by
  refine ⟨by rw [List.length_append, h.len]; rfl, fun j u' hu' => ?_, ownsRow_kept h.all (fun g hgg => ?_), (h.bel.alloc h.bel.size _).grown hg (Nat.le_trans h.bel.size (by simp)) (fun j hj => (h.own.lt j hj).1)⟩
  · rcases Nat.lt_or_ge j us.length with hj | hj
    · rw [List.getElem?_append_left hj] at hu'
      exact h.at' j u' hu'
    · rw [List.getElem?_append_right hj] at hu'
      have h0 : j - us.length = 0 := by
        rcases Nat.eq_zero_or_pos (j - us.length) with h0 | h0
        · exact h0
        · rw [List.getElem?_eq_none (by simp; omega)] at hu'; cases hu'
      rw [h0] at hu'
      have hj2 : j = i := by have := h.len; omega
      subst hj2
      have hu2 : u = u' := by simpa using hu'
      rw [← hu2]
      exact hu
  · rw [hg.block g (by have := (h.all.lt g hgg).2; simp; omega) (fun e => own_apart h.own h.all tys_ne g hgg e.symm)]
    exact Below.heap_alloc _ _ _ (h.all.lt g hgg).2
/-- Both rows have grown. -/
theorem SmI.rows2 {w w1 w2 : World} {ls : List (List Int)} {i : Nat} {us : List Value} {v5 v6 v6' : Value} (hl : us.length = i + 1) (hi : i < ls.length) (hown : w1.ownsRow w.heap.size 23 1 v5 (i + 1) us) (hat : ∀ j u', us[j]? = some u' → BAt w u' ((ls.getD j []).take 200)) (hall : w1.ownsRow w.heap.size 5 1 v6 (cutR ls i).flatten.length (bv (cutR ls i).flatten)) (hbel : Below w.heap.size w w1)
    (ho2 : w2.ownsRow w.heap.size 5 1 v6' ((cutR ls i).flatten ++ (ls.getD i []).take 200).length (bv ((cutR ls i).flatten ++ (ls.getD i []).take 200))) (hg : w1.grownBy w2 v6.ownBlock) : SmI w ls (i + 1) us v5 v6' w2 :=
  ⟨hl, ownsRow_kept hown (fun g hgg => hg.block g (hown.lt g hgg).2 (fun e => own_apart hall hown (fun e => tys_ne e.symm) g hgg e.symm)), hat,
    by rw [cutR_flat hi]; exact ho2, hbel.grown hg hbel.size (fun j hj => (hall.lt j hj).1)⟩
/-- The parts as Sum takes them. -/
theorem SmI.parts {w wx : World} {ls : List (List Int)} {i : Nat} {us : List Value} {v5 v6 : Value} (h : SmI w ls i us v5 v6 wx) (hi : i ≤ ls.length) : PAt wx v5 (cutR ls i) := by
  have hl := cutR_len hi
  rcases h.own.2 with ⟨h1, h2⟩ | ⟨g, cap, cur, h1, _, h3, h4, _⟩
  · exact ⟨none, 0, by rw [h1, hl, h2], by omega, fun hp => by omega⟩
  · refine ⟨_, cap, by rw [h1, hl], by rw [hl]; exact h4, fun _ => ⟨g, 0, rfl, (Array.getElem?_eq_some_iff.1 h3).1, fun j hj => ?_⟩⟩
    rw [hl] at hj
    have hj2 : j < us.length := by rw [h.len]; exact hj
    have h5 := h.own.cells (g := g) (by rw [h1]; rfl) j _ (List.getElem?_eq_getElem hj2)
    rw [show (Addr.mk g 0 none).add j = ⟨g, 0 + j, none⟩ by unfold Addr.add; split <;> simp_all] at h5
    refine ⟨_, h5, ?_⟩
    rw [cutR_get hj hi]
    exact (h.at' j _ (List.getElem?_eq_getElem hj2)).kept h.bel
end Go.Proofs.Ytmcoinfdgidblaa.Fr
