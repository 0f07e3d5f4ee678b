/-
  A block of six cells: two numbers, what goes out (two cells), what comes in (two cells). Conditions: none.
-/
import Derived.Test.YtganokcmcdkdgaaWBase
namespace Go.Proofs.Ytganokcmcdkdgaa.Wi
open Go.RowKit Tb

/-- The other four cells. -/
abbrev R4 := Value × Value × Value × Value
def Six (w : World) (b : Nat) (z0 z1 z2 z3 z4 z5 : Value) : Prop := w.heap[b]? = some (.cells #[z0, z1, z2, z3, z4, z5] 79 (0, 0))
def TwO (w : World) (b : Nat) (R : R4) (x y : Value) : Prop := Six w b R.1 R.2.1 x y R.2.2.1 R.2.2.2
def TwI (w : World) (b : Nat) (R : R4) (x y : Value) : Prop := Six w b R.1 R.2.1 R.2.2.1 R.2.2.2 x y
theorem grownBy_set4 (w : World) (b : Nat) (u : Value) : w.grownBy (w.setCell ⟨b, 4, none⟩ u) (some b) := ⟨rfl, rfl, rfl, by simp [World.setCell], fun k _ hn => Below.heap_setCell _ _ _ _ (fun e => hn (by rw [e]))⟩
section
variable {w w' : World} {b : Nat} {z0 z1 z2 z3 z4 z5 : Value}
theorem Six.lt (h : Six w b z0 z1 z2 z3 z4 z5) : b < w.heap.size := (Array.getElem?_eq_some_iff.1 h).1
theorem Six.c0 (h : Six w b z0 z1 z2 z3 z4 z5) : w.cell? ⟨b, 0, none⟩ = some z0 := by simp [World.cell?, show w.heap[b]? = _ from h]
theorem Six.c1 (h : Six w b z0 z1 z2 z3 z4 z5) : w.cell? ⟨b, 1, none⟩ = some z1 := by simp [World.cell?, show w.heap[b]? = _ from h]
theorem Six.c2 (h : Six w b z0 z1 z2 z3 z4 z5) : w.cell? ⟨b, 2, none⟩ = some z2 := by simp [World.cell?, show w.heap[b]? = _ from h]
theorem Six.c3 (h : Six w b z0 z1 z2 z3 z4 z5) : w.cell? ⟨b, 3, none⟩ = some z3 := by simp [World.cell?, show w.heap[b]? = _ from h]
theorem Six.c4 (h : Six w b z0 z1 z2 z3 z4 z5) : w.cell? ⟨b, 4, none⟩ = some z4 := by simp [World.cell?, show w.heap[b]? = _ from h]
theorem Six.c5 (h : Six w b z0 z1 z2 z3 z4 z5) : w.cell? ⟨b, 5, none⟩ = some z5 := by simp [World.cell?, show w.heap[b]? = _ from h]
theorem Six.f (h : Six w b z0 z1 z2 z3 z4 z5) (j : Nat) : w.frozen? ⟨b, j, none⟩ = false := by simp [World.frozen?, show w.heap[b]? = _ from h]
theorem Six.kept {S : Nat → Prop} (h : Six w b z0 z1 z2 z3 z4 z5) (hk : Kept S w w') (hs : ¬ S b) : Six w' b z0 z1 z2 z3 z4 z5 := hk.heap h hs
theorem Six.below (h : Six w b z0 z1 z2 z3 z4 z5) (hb : Below w.heap.size w w') : Six w' b z0 z1 z2 z3 z4 z5 := block_kept h hb
theorem Six.grown {row : Option Nat} (h : Six w b z0 z1 z2 z3 z4 z5) (hg : w.grownBy w' row) (hne : row ≠ some b) : Six w' b z0 z1 z2 z3 z4 z5 := h.kept (Kept.of_grown hg) hne
theorem Six.new (w : World) (z0 z1 z2 z3 z4 z5 : Value) : Six (w.alloc (.cells #[z0, z1, z2, z3, z4, z5] 79)) w.heap.size z0 z1 z2 z3 z4 z5 := block_new _ _
theorem Six.set2 (h : Six w b z0 z1 z2 z3 z4 z5) (u : Value) : Six (w.setCell ⟨b, 2, none⟩ u) b z0 z1 u z3 z4 z5 := by
  show (w.setCell ⟨b, 2, none⟩ u).heap[b]? = _
  simp only [World.setCell, Array.getElem?_modify, if_true]; rw [show w.heap[b]? = _ from h]; rfl
theorem Six.set3 (h : Six w b z0 z1 z2 z3 z4 z5) (u : Value) : Six (w.setCell ⟨b, 3, none⟩ u) b z0 z1 z2 u z4 z5 := by
  show (w.setCell ⟨b, 3, none⟩ u).heap[b]? = _
  simp only [World.setCell, Array.getElem?_modify, if_true]; rw [show w.heap[b]? = _ from h]; rfl
theorem Six.set4 (h : Six w b z0 z1 z2 z3 z4 z5) (u : Value) : Six (w.setCell ⟨b, 4, none⟩ u) b z0 z1 z2 z3 u z5 := by
  show (w.setCell ⟨b, 4, none⟩ u).heap[b]? = _
  simp only [World.setCell, Array.getElem?_modify, if_true]; rw [show w.heap[b]? = _ from h]; rfl
theorem Six.set5 (h : Six w b z0 z1 z2 z3 z4 z5) (u : Value) : Six (w.setCell ⟨b, 5, none⟩ u) b z0 z1 z2 z3 z4 u := by
  show (w.setCell ⟨b, 5, none⟩ u).heap[b]? = _
  simp only [World.setCell, Array.getElem?_modify, if_true]; rw [show w.heap[b]? = _ from h]; rfl
theorem Six.not_row (h : Six w b z0 z1 z2 z3 z4 z5) {e : TypeId} (hte : 79 ≠ e) {base size k : Nat} {v : Value} {xs : List Value} (hr : w.ownsRow base e size v k xs) : v.ownBlock ≠ some b := fun he => by
  rcases hr.2 with ⟨h1, _⟩ | ⟨g, cap, cur, h1, _, h3, _⟩
  · rw [h1] at he; cases he
  · rw [h1] at he
    cases he
    rw [show w.heap[_]? = _ from h] at h3
    simp only [Option.some.injEq, Obj.cells.injEq] at h3
    exact hte h3.2.1
end
section
variable {w w' : World} {b : Nat} {R : R4} {x y : Value}
theorem TwO.lt (h : TwO w b R x y) : b < w.heap.size := Six.lt h
theorem TwO.c0 (h : TwO w b R x y) : w.cell? ⟨b, 2, none⟩ = some x := Six.c2 h
theorem TwO.c1 (h : TwO w b R x y) : w.cell? ⟨b, 3, none⟩ = some y := Six.c3 h
theorem TwO.f0 (h : TwO w b R x y) : w.frozen? ⟨b, 2, none⟩ = false := Six.f h 2
theorem TwO.f1 (h : TwO w b R x y) : w.frozen? ⟨b, 3, none⟩ = false := Six.f h 3
theorem TwO.kept {S : Nat → Prop} (h : TwO w b R x y) (hk : Kept S w w') (hs : ¬ S b) : TwO w' b R x y := Six.kept h hk hs
theorem TwO.below (h : TwO w b R x y) (hb : Below w.heap.size w w') : TwO w' b R x y := Six.below h hb
theorem TwO.grown {row : Option Nat} (h : TwO w b R x y) (hg : w.grownBy w' row) (hne : row ≠ some b) : TwO w' b R x y := Six.grown h hg hne
theorem TwO.set0 (h : TwO w b R x y) (u : Value) : TwO (w.setCell ⟨b, 2, none⟩ u) b R u y := Six.set2 h u
theorem TwO.set1 (h : TwO w b R x y) (u : Value) : TwO (w.setCell ⟨b, 3, none⟩ u) b R x u := Six.set3 h u
theorem TwO.not_row (h : TwO w b R x y) {e : TypeId} (hte : 79 ≠ e) {base size k : Nat} {v : Value} {xs : List Value} (hr : w.ownsRow base e size v k xs) : v.ownBlock ≠ some b := Six.not_row h hte hr
theorem TwI.lt (h : TwI w b R x y) : b < w.heap.size := Six.lt h
theorem TwI.c0 (h : TwI w b R x y) : w.cell? ⟨b, 4, none⟩ = some x := Six.c4 h
theorem TwI.c1 (h : TwI w b R x y) : w.cell? ⟨b, 5, none⟩ = some y := Six.c5 h
theorem TwI.f0 (h : TwI w b R x y) : w.frozen? ⟨b, 4, none⟩ = false := Six.f h 4
theorem TwI.f1 (h : TwI w b R x y) : w.frozen? ⟨b, 5, none⟩ = false := Six.f h 5
theorem TwI.kept {S : Nat → Prop} (h : TwI w b R x y) (hk : Kept S w w') (hs : ¬ S b) : TwI w' b R x y := Six.kept h hk hs
theorem TwI.below (h : TwI w b R x y) (hb : Below w.heap.size w w') : TwI w' b R x y := Six.below h hb
theorem TwI.grown {row : Option Nat} (h : TwI w b R x y) (hg : w.grownBy w' row) (hne : row ≠ some b) : TwI w' b R x y := Six.grown h hg hne
theorem TwI.set0 (h : TwI w b R x y) (u : Value) : TwI (w.setCell ⟨b, 4, none⟩ u) b R u y := Six.set4 h u
theorem TwI.set1 (h : TwI w b R x y) (u : Value) : TwI (w.setCell ⟨b, 5, none⟩ u) b R x u := Six.set5 h u
theorem TwI.not_row (h : TwI w b R x y) {e : TypeId} (hte : 79 ≠ e) {base size k : Nat} {v : Value} {xs : List Value} (hr : w.ownsRow base e size v k xs) : v.ownBlock ≠ some b := Six.not_row h hte hr
end
end Go.Proofs.Ytganokcmcdkdgaa.Wi
