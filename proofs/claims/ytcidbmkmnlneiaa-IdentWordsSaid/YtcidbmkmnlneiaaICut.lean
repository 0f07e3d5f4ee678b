/-
  A text's words, and the contract of the function that ident's Words cuts them by. Conditions: a text of at most 500 bytes; fewer than 1000 words.
-/
import Derived.Deep.AppendLies
import Derived.Deep.RegionLaw
import Derived.Deep.RegionHeld3
import Derived.Test.YtcidbmkmnlneiaaIRefMems
namespace Go.Proofs.Ytcidbmkmnlneiaa.Id
open Go.RowKit

def strV (ss : List ByteArray) : List Value := ss.map Value.string
theorem strInf : (Try.prog.info? 9).map (fun i => (i.zero, i.size, i.bytes)) = some (some (.string ByteArray.empty), 1, 16) := by kernel_rfl

/-- Does the byte part two words? -/
def sepB (c : Int) : Bool := (c == 32) || (c == 10)
def cutW (s : ByteArray) (a b : Nat) (ws : List ByteArray) : List ByteArray := if a < b then ws ++ [s.extract a b] else ws
/-- Where the word at hand begins, and the words ahead of it, behind k bytes. -/
def wst (s : ByteArray) : Nat → Nat × List ByteArray
  | 0 => (0, [])
  | k + 1 => if sepB ((sb s).getD k 0) then (k + 1, cutW s (wst s k).1 k (wst s k).2) else wst s k
def wordsOf (s : ByteArray) : List ByteArray := cutW s (wst s s.size).1 s.size (wst s s.size).2
theorem cutW_len (s : ByteArray) (a b : Nat) (ws : List ByteArray) : (cutW s a b ws).length ≤ ws.length + 1 := by
  unfold cutW
  split <;> simp
theorem wst_le (s : ByteArray) (k : Nat) : (wst s k).1 ≤ k ∧ (wst s k).2.length ≤ k := by
  induction k with
  | zero => simp [wst]
  | succ k ih =>
    unfold wst
    split
    · have := cutW_len s (wst s k).1 k (wst s k).2
      exact ⟨Nat.le_refl _, by show (cutW s (wst s k).1 k (wst s k).2).length ≤ k + 1; omega⟩
    · omega
theorem wst_sep {s : ByteArray} {k : Nat} (h : sepB ((sb s).getD k 0) = true) : wst s (k + 1) = (k + 1, cutW s (wst s k).1 k (wst s k).2) := by
  show (if sepB ((sb s).getD k 0) then _ else _) = _
  rw [if_pos h]
theorem wst_in {s : ByteArray} {k : Nat} (h : sepB ((sb s).getD k 0) = false) : wst s (k + 1) = wst s k := by
  show (if sepB ((sb s).getD k 0) then _ else _) = _
  rw [if_neg (by rw [h]; decide)]

/-- The words' memory: the text's box, the row that is built, where the word at hand begins. -/
def WInv (B : Nat) (s : ByteArray) (a : Nat) (ws : List ByteArray) (w : World) : Prop :=
  w.heap[B]? = some (.cells #[.string s] 9 (0, 0)) ∧ w.heap[B + 2]? = some (.cells #[.int .i64 (a : Int)] 3 (0, 0)) ∧
    ∃ v, w.heap[B + 1]? = some (.cells #[v] 38 (0, 0)) ∧ w.ownsRow (B + 4) 9 1 v ws.length (strV ws)
theorem WInv.lt {B : Nat} {s : ByteArray} {a : Nat} {ws : List ByteArray} {w : World} (h : WInv B s a ws w) : B + 2 < w.heap.size := (Array.getElem?_eq_some_iff.1 h.2.1).1
theorem WInv.below {B : Nat} {s : ByteArray} {a : Nat} {ws : List ByteArray} {w w' : World} (h : WInv B s a ws w) (hb : Below w.heap.size w w') : WInv B s a ws w' := by
  obtain ⟨h1, h2, v, h3, h4⟩ := h
  exact ⟨block_kept h1 hb, block_kept h2 hb, v, block_kept h3 hb, h4.kept (row := none) ⟨hb.os, hb.tape, hb.output, hb.size, fun i hi _ => hb.block i hi⟩ (by
    rcases hv : v.ownBlock with _ | g
    · exact .inl rfl
    · exact .inr (by simp))⟩

theorem block_grown {w w1 : World} {b : Nat} {x o : Obj} {row : Option Nat} (h : w.heap[b]? = some x) (hg : (w.alloc o).drew.grownBy w1 row) (hne : some b ≠ row) : w1.heap[b]? = some x := by
  have e : (w.alloc o).drew.heap[b]? = some x := block_old h o
  rw [hg.block b (Array.getElem?_eq_some_iff.1 e).1 hne]
  exact e
theorem own_ne {w : World} {base b : Nat} {e : TypeId} {size n : Nat} {v : Value} {xs : List Value} (h : w.ownsRow base e size v n xs) (hb : b < base) : some b ≠ v.ownBlock := fun k => by
  have := (h.lt b k.symm).1
  omega

theorem slice_mid (s : ByteArray) (a b : Nat) (h : a ≤ b) (h2 : b ≤ s.size) (w : World) : (Instr.slice 9 (.string s) (some (.int .i64 (a : Int))) (some (.int .i64 (b : Int))) none).run Try.prog w = .ok (.string (s.extract a b)) w := by
  have h3 : (a : Int) ≤ (b : Int) := by omega
  have h4 : (b : Int) ≤ (s.size : Int) := by omega
  simp [Instr.slice, Instr.sliceBounds, Instr.sliceBound, asIntOf, run_underlying Try.underlying9, h, h2]

set_option maxRecDepth 100000 in
set_option maxHeartbeats 4000000 in
theorem cut_any (w : World) (B : Nat) (s : ByteArray) (a b : Nat) (ws : List ByteArray) (hi : WInv B s a ws w) (hB3 : B + 3 < w.heap.size) (hb : b ≤ s.size) (hs : s.size ≤ 500) (_ha : a ≤ 501) (hw : ws.length ≤ 1000) :
    Calls Try.prog 29 #[.int .i64 (b : Int), .pointer (some ⟨B + 2, 0, none⟩), .pointer (some ⟨B + 1, 0, none⟩), .pointer (some ⟨B, 0, none⟩)] w fun e w' => e = .returned (.tuple #[]) ∧ WInv B s (b + 1) (cutW s a b ws) w' ∧ w'.heap[B + 3]? = w.heap[B + 3]? ∧ Below B w w' := by
  have hlt := hi.lt
  obtain ⟨h1, h2, v, h3, hrow⟩ := hi
  obtain ⟨i0, hi0, hz0, hz1, hz2⟩ := info_parts strInf
  obtain ⟨c1, f1⟩ := block_cell h1
  obtain ⟨c2, f2⟩ := block_cell h2
  obtain ⟨c3, f3⟩ := block_cell h3
  have H1 := Lib.hid h1
  have H2 := Lib.hid h2
  have H3 := Lib.hid h3
  clear h1 h2 h3
  by_cases hab : a < b
  · have hsl := fun W => slice_mid s a b (by omega) hb W
    obtain ⟨t, ht⟩ : ∃ t, t = s.extract a b := ⟨_, rfl⟩
    rw [← ht] at hsl
    have hcw : Hid (cutW s a b ws = ws ++ [t]) := by show _ = _; unfold cutW; rw [if_pos hab, ht]
    clear ht
    go_enter Try.func29, Try.ntmps29
    go_wp2_with fail
    have S1 : w.cell? ⟨B, 0, none⟩ = some (.string s) ∧ w.cell? ⟨B + 2, 0, none⟩ = some (.int .i64 (a : Int)) := ⟨c1, c2⟩
    have l0 : B < w.heap.size := by omega
    have l1 : B + 1 < w.heap.size := by omega
    go_region_law
      ((refine step_append_lies _ (by rfl) _ _ _ (by rfl) (B + 4) 9 i0 _ 1 16 Try.underlying38 hi0 hz0 hz1 hz2 rfl (by omega) v ws.length (strV ws) (by rfl) ((hrow.alloc _).drew) ⟨w.heap.size, 0, none⟩ 1 1 [.string t] (by rfl) (by rfl) (World.news_of_block (cs := #[.string t]) (t := 9) (fr := (0, 0)) (heap_alloc_new w _)) (by simp [Value.oneCell']) (by omega) (by unfold maxLen; omega) (by omega) (by simp; omega) (w.heap.size + 1) (by simp) ?_; intro gg cp w1 hown1 hgrow hat hlt1
        have g1 := block_grown H1.out hgrow (own_ne hrow (by omega))
        have g2 := block_grown H2.out hgrow (own_ne hrow (by omega))
        have g3 := block_grown H3.out hgrow (own_ne hrow (by omega))
        obtain ⟨d1, e1⟩ := block_cell g1
        obtain ⟨d2, e2⟩ := block_cell g2
        obtain ⟨d3, e3⟩ := block_cell g3))
    all_goals
      have fin : ∀ W, W = (w1.setCell ⟨B + 1, 0, none⟩ (.slice (some ⟨gg, 0, none⟩) (ws.length + 1) cp)).setCell ⟨B + 2, 0, none⟩ (.int .i64 ((b : Int) + 1)) → WInv B s (b + 1) (cutW s a b ws) W ∧ W.heap[B + 3]? = w.heap[B + 3]? ∧ Below B w W := by
        rintro W rfl
        have k1 := (hown1.kept (grownBy_setCell' w1 (B + 1) (.slice (some ⟨gg, 0, none⟩) (ws.length + 1) cp)) (.inr (own_ne hown1 (by omega)).symm))
        have k2 := (k1.kept (grownBy_setCell' _ (B + 2) (.int .i64 ((b : Int) + 1))) (.inr (own_ne k1 (by omega)).symm))
        refine ⟨⟨block_set (block_set g1 (by simp) _) (by simp) _, ?_, _, block_set (block_put g3 _) (by simp) _, ?_⟩, ?_, ?_⟩
        · rw [show ((b + 1 : Nat) : Int) = (b : Int) + 1 by omega]
          exact block_put (block_set g2 (by simp) _) _
        · rw [hcw.out, List.length_append]
          simpa [strV] using k2
        · refine (Below.heap_setCell _ _ _ _ (by simp)).trans ((Below.heap_setCell _ _ _ _ (by simp)).trans ?_)
          have e : (w.alloc (.cells #[.string t] 9)).drew.heap[B + 3]? = w.heap[B + 3]? := Below.heap_alloc w _ (B + 3) hB3
          rw [hgrow.block (B + 3) (by simp; omega) (own_ne hrow (by omega)), e]
        · exact (((below_drewN ((Below.refl B w).alloc (by omega) _) 1).grown hgrow (by simp; omega) (fun j hj => by have := (hrow.lt j hj).1; omega)).setCell (p := ⟨B + 1, 0, none⟩) (Nat.le_succ _) _).setCell (p := ⟨B + 2, 0, none⟩) (by simp) _
      have FIN := Lib.hid fin
      clear fin
      go_wp2
      go_end0
      exact ⟨rfl, FIN.out _ rfl⟩
  · have hcw : Hid (cutW s a b ws = ws) := by show _ = _; unfold cutW; rw [if_neg hab]
    have fin : ∀ W, W = w.setCell ⟨B + 2, 0, none⟩ (.int .i64 ((b : Int) + 1)) → WInv B s (b + 1) (cutW s a b ws) W ∧ W.heap[B + 3]? = w.heap[B + 3]? ∧ Below B w W := by
      rintro W rfl
      refine ⟨⟨block_set H1.out (by simp) _, ?_, _, block_set H3.out (by simp) _, ?_⟩, Below.heap_setCell _ _ _ _ (by simp), (Below.refl B w).setCell (p := ⟨B + 2, 0, none⟩) (by simp) _⟩
      · rw [show ((b + 1 : Nat) : Int) = (b : Int) + 1 by omega]
        exact block_put H2.out _
      · rw [hcw.out]
        exact hrow.kept (grownBy_setCell' w (B + 2) (.int .i64 ((b : Int) + 1))) (.inr (own_ne hrow (by omega)).symm)
    have FIN := Lib.hid fin
    have hba : b ≤ a := by omega
    clear fin hab
    go_enter Try.func29, Try.ntmps29
    go_wp2
    go_end0
    exact ⟨rfl, FIN.out _ rfl⟩
end Go.Proofs.Ytcidbmkmnlneiaa.Id
