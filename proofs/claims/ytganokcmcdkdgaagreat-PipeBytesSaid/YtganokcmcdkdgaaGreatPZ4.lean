/-
  Blocks of two cells; laws of appends. Conditions: none.
-/
import Derived.Test.YtganokcmcdkdgaaGreatPZ2
import Derived.Deep.RegionHeld3
import Derived.Lib.AppendZeros
import Derived.Laws.Rows
import Derived.Lib.SmallJoins
namespace Go.Proofs.YtganokcmcdkdgaaGreat.Wi
open Go.RowKit Tb

/-- A block of two cells. -/
def Two (w : World) (b : Nat) (t : TypeId) (x y : Value) : Prop := w.heap[b]? = some (.cells #[x, y] t (0, 0))
section
variable {w w' : World} {b : Nat} {t : TypeId} {x y : Value}
theorem Two.lt (h : Two w b t x y) : b < w.heap.size := (Array.getElem?_eq_some_iff.1 h).1
theorem Two.c0 (h : Two w b t x y) : w.cell? ⟨b, 0, none⟩ = some x := by simp [World.cell?, show w.heap[b]? = _ from h]
theorem Two.c1 (h : Two w b t x y) : w.cell? ⟨b, 1, none⟩ = some y := by simp [World.cell?, show w.heap[b]? = _ from h]
theorem Two.f0 (h : Two w b t x y) : w.frozen? ⟨b, 0, none⟩ = false := by simp [World.frozen?, show w.heap[b]? = _ from h]
theorem Two.f1 (h : Two w b t x y) : w.frozen? ⟨b, 1, none⟩ = false := by simp [World.frozen?, show w.heap[b]? = _ from h]
theorem Two.kept {S : Nat → Prop} (h : Two w b t x y) (hk : Kept S w w') (hs : ¬ S b) : Two w' b t x y := hk.heap h hs
theorem Two.below (h : Two w b t x y) (hb : Below w.heap.size w w') : Two w' b t x y := block_kept h hb
theorem Two.grown {row : Option Nat} (h : Two w b t x y) (hg : w.grownBy w' row) (hne : row ≠ some b) : Two w' b t x y := h.kept (Kept.of_grown hg) hne
theorem Two.new (w : World) (t : TypeId) (x y : Value) : Two (w.alloc (.cells #[x, y] t)) w.heap.size t x y := block_new _ _
theorem Two.set0 (h : Two w b t x y) (u : Value) : Two (w.setCell ⟨b, 0, none⟩ u) b t u y := by
  show (w.setCell ⟨b, 0, none⟩ u).heap[b]? = _
  simp only [World.setCell, Array.getElem?_modify, if_true]; rw [show w.heap[b]? = _ from h]; rfl
theorem Two.set1 (h : Two w b t x y) (u : Value) : Two (w.setCell ⟨b, 1, none⟩ u) b t x u := by
  show (w.setCell ⟨b, 1, none⟩ u).heap[b]? = _
  simp only [World.setCell, Array.getElem?_modify, if_true]; rw [show w.heap[b]? = _ from h]; rfl
theorem Two.not_row (h : Two w b t x y) {e : TypeId} (hte : t ≠ e) {base size k : Nat} {v : Value} {xs : List Value} (hr : w.ownsRow base e size v k xs) : v.ownBlock ≠ some b := fun he => by
  rcases hr.2 with ⟨h1, _⟩ | ⟨g, cap, cur, h1, _, h3, _⟩
  · rw [h1] at he; cases he
  · rw [h1] at he
    cases he
    rw [show w.heap[_]? = _ from h] at h3
    simp only [Option.some.injEq, Obj.cells.injEq] at h3
    exact hte h3.2.1
end
/-- A structure's block and its row's. -/
def Own (b : Nat) (v : Value) : Nat → Prop := fun x => x = b ∨ v.ownBlock = some x
/-- The new row is the old one or a new one. -/
def Nw (w : World) (v v' : Value) : Prop := ∀ i, v'.ownBlock = some i → v.ownBlock = some i ∨ w.heap.size ≤ i
theorem Nw.refl (w : World) (v : Value) : Nw w v v := fun _ h => .inl h
theorem own_keep {w w' : World} {base n : Nat} {e : TypeId} {size : Nat} {v : Value} {xs : List Value} {S : Nat → Prop} (h : w.ownsRow base e size v n xs) (hk : Kept S w w') (hs : ∀ i, v.ownBlock = some i → ¬ S i) : w'.ownsRow base e size v n xs := by
  obtain ⟨h1, h2⟩ := h
  refine ⟨h1, ?_⟩
  rcases h2 with h2 | ⟨g, cap, cur, rfl, hg, hh, h5⟩
  · exact .inl h2
  · exact .inr ⟨g, cap, cur, rfl, hg, hk.heap hh (hs g rfl), h5⟩
theorem own_below {w w' : World} {base n : Nat} {e : TypeId} {size : Nat} {v : Value} {xs : List Value} (h : w.ownsRow base e size v n xs) (hb : Below w.heap.size w w') : w'.ownsRow base e size v n xs :=
  own_keep h (Kept.of_below (S := fun _ => False) hb) (fun _ _ h => h)
theorem own_lt {w : World} {base n : Nat} {e : TypeId} {size : Nat} {v : Value} {xs : List Value} (h : w.ownsRow base e size v n xs) : ∀ i, v.ownBlock = some i → i < w.heap.size := fun i hi => (h.lt i hi).2
theorem own_form {w : World} {base n : Nat} {e : TypeId} {size : Nat} {v : Value} {xs : List Value} (h : w.ownsRow base e size v n xs) : ∃ A cap, v = .slice A n cap ∧ n ≤ cap ∧ (∀ a, A = some a → v.ownBlock = some a.block) := by
  rcases h.2 with ⟨h1, h2⟩ | ⟨g, cap, cur, h1, _, _, h4, _⟩
  · exact ⟨none, 0, by rw [h1, h2], by omega, fun a h => by cases h⟩
  · exact ⟨_, cap, h1, h4, fun a h => by rw [h1]; cases h; rfl⟩
theorem own_base {w : World} {base n : Nat} {e : TypeId} {size : Nat} {v : Value} {xs : List Value} (h : w.ownsRow base e size v n xs) : w.ownsRow 0 e size v n xs := by
  obtain ⟨h1, h2⟩ := h
  refine ⟨h1, ?_⟩
  rcases h2 with h2 | ⟨g, cap, cur, rfl, hg, hh, h5⟩
  · exact .inl h2
  · exact .inr ⟨g, cap, cur, rfl, Nat.zero_le _, hh, h5⟩

theorem step_app_w {P : Program} (w : World) {ops : Array Oper} {o : Oper} {a : Act} {K : Act → World → Prop} {Q : Exit → Act → World → Prop} {E : Prop} (hw : Region.wanted o (yielded ops a.tmps) = true) (s x : Operand) (t tn : TypeId)
    (ho : o.op = .call { callee := .builtin .append, args := #[s, x], argTypes := #[t, tn] }) (vs vx : Value) (hs : a.eval s = vs) (hx : a.eval x = vx)
    (v' : Value) (w' : World) (hr : (Builtin.append_ #[t, tn] o.type #[vs, vx]).run P w = .ok v' w') (h : K (a.put o.dst v') w') :
    if Region.wanted o (yielded ops a.tmps) = true then Oper.wp P o a w K Q else E := by
  rw [if_pos hw]
  exact Lib.wp_append_run w s x t tn ho vs vx hs hx v' w' hr h
theorem wpList_app_run {P : Program} (w : World) {ops : Array Oper} {rest : List Oper} {o : Oper} {a : Act} {Q : Exit → Act → World → Prop} (hgd : o.guard = none) (s x : Operand) (t : TypeId)
    (ho : o.op = .call { callee := .builtin .append, args := #[s, x], argTypes := #[t, t] }) (vs vx : Value) (hs : a.eval s = vs) (hx : a.eval x = vx)
    (v' : Value) (w' : World) (hr : (Builtin.append_ #[t, t] o.type #[vs, vx]).run P w = .ok v' w') (h : wpList P ops Q rest (a.put o.dst v') w') : wpList P ops Q (o :: rest) a w :=
  Lib.wpList_append_run w hgd s x t t ho vs vx hs hx v' w' hr h
theorem info_parts {P : Program} {t : TypeId} {z : Option Value} {n m : Nat} (h : (P.info? t).map (fun i => (i.zero, i.size, i.bytes)) = some (z, n, m)) : ∃ i, P.info? t = some i ∧ i.zero = z ∧ i.size = n ∧ i.bytes = m := by
  cases e : P.info? t with
  | none => rw [e] at h; cases h
  | some i => rw [e] at h; simp at h; exact ⟨i, rfl, h.1, h.2.1, h.2.2⟩
end Go.Proofs.YtganokcmcdkdgaaGreat.Wi

namespace Go.Proofs.YtganokcmcdkdgaaGreat.Wi
open Go.RowKit Tb

/-- The other four cells. -/
abbrev R4 := Value × Value × Value × Value
def Six (w : World) (b : Nat) (z0 z1 z2 z3 z4 z5 : Value) : Prop := w.heap[b]? = some (.cells #[z0, z1, z2, z3, z4, z5] 114 (0, 0))
def TwO (w : World) (b : Nat) (R : R4) (x y : Value) : Prop := Six w b R.1 R.2.1 x y R.2.2.1 R.2.2.2
def TwI (w : World) (b : Nat) (R : R4) (x y : Value) : Prop := Six w b R.1 R.2.1 R.2.2.1 R.2.2.2 x y
theorem grownBy_set4 (w : World) (b : Nat) (u : Value) : w.grownBy (w.setCell ⟨b, 4, none⟩ u) (some b) := ⟨rfl, rfl, rfl, by simp [World.setCell], fun k _ hn => Below.heap_setCell _ _ _ _ (fun e => hn (by rw [e]))⟩
section
variable {w w' : World} {b : Nat} {z0 z1 z2 z3 z4 z5 : Value}
theorem Six.lt (h : Six w b z0 z1 z2 z3 z4 z5) : b < w.heap.size := (Array.getElem?_eq_some_iff.1 h).1
theorem Six.c0 (h : Six w b z0 z1 z2 z3 z4 z5) : w.cell? ⟨b, 0, none⟩ = some z0 := by simp [World.cell?, show w.heap[b]? = _ from h]
theorem Six.c1 (h : Six w b z0 z1 z2 z3 z4 z5) : w.cell? ⟨b, 1, none⟩ = some z1 := by simp [World.cell?, show w.heap[b]? = _ from h]
theorem Six.c2 (h : Six w b z0 z1 z2 z3 z4 z5) : w.cell? ⟨b, 2, none⟩ = some z2 := by simp [World.cell?, show w.heap[b]? = _ from h]
theorem Six.c3 (h : Six w b z0 z1 z2 z3 z4 z5) : w.cell? ⟨b, 3, none⟩ = some z3 := by simp [World.cell?, show w.heap[b]? = _ from h]
theorem Six.c4 (h : Six w b z0 z1 z2 z3 z4 z5) : w.cell? ⟨b, 4, none⟩ = some z4 := by simp [World.cell?, show w.heap[b]? = _ from h]
theorem Six.c5 (h : Six w b z0 z1 z2 z3 z4 z5) : w.cell? ⟨b, 5, none⟩ = some z5 := by simp [World.cell?, show w.heap[b]? = _ from h]
theorem Six.f (h : Six w b z0 z1 z2 z3 z4 z5) (j : Nat) : w.frozen? ⟨b, j, none⟩ = false := by simp [World.frozen?, show w.heap[b]? = _ from h]
theorem Six.kept {S : Nat → Prop} (h : Six w b z0 z1 z2 z3 z4 z5) (hk : Kept S w w') (hs : ¬ S b) : Six w' b z0 z1 z2 z3 z4 z5 := hk.heap h hs
theorem Six.below (h : Six w b z0 z1 z2 z3 z4 z5) (hb : Below w.heap.size w w') : Six w' b z0 z1 z2 z3 z4 z5 := block_kept h hb
theorem Six.grown {row : Option Nat} (h : Six w b z0 z1 z2 z3 z4 z5) (hg : w.grownBy w' row) (hne : row ≠ some b) : Six w' b z0 z1 z2 z3 z4 z5 := h.kept (Kept.of_grown hg) hne
theorem Six.new (w : World) (z0 z1 z2 z3 z4 z5 : Value) : Six (w.alloc (.cells #[z0, z1, z2, z3, z4, z5] 114)) w.heap.size z0 z1 z2 z3 z4 z5 := block_new _ _
theorem Six.set2 (h : Six w b z0 z1 z2 z3 z4 z5) (u : Value) : Six (w.setCell ⟨b, 2, none⟩ u) b z0 z1 u z3 z4 z5 := by
  show (w.setCell ⟨b, 2, none⟩ u).heap[b]? = _
  simp only [World.setCell, Array.getElem?_modify, if_true]; rw [show w.heap[b]? = _ from h]; rfl
theorem Six.set3 (h : Six w b z0 z1 z2 z3 z4 z5) (u : Value) : Six (w.setCell ⟨b, 3, none⟩ u) b z0 z1 z2 u z4 z5 := by
  show (w.setCell ⟨b, 3, none⟩ u).heap[b]? = _
  simp only [World.setCell, Array.getElem?_modify, if_true]; rw [show w.heap[b]? = _ from h]; rfl
theorem Six.set4 (h : Six w b z0 z1 z2 z3 z4 z5) (u : Value) : Six (w.setCell ⟨b, 4, none⟩ u) b z0 z1 z2 z3 u z5 := by
  show (w.setCell ⟨b, 4, none⟩ u).heap[b]? = _
  simp only [World.setCell, Array.getElem?_modify, if_true]; rw [show w.heap[b]? = _ from h]; rfl
theorem Six.set5 (h : Six w b z0 z1 z2 z3 z4 z5) (u : Value) : Six (w.setCell ⟨b, 5, none⟩ u) b z0 z1 z2 z3 z4 u := by
  show (w.setCell ⟨b, 5, none⟩ u).heap[b]? = _
  simp only [World.setCell, Array.getElem?_modify, if_true]; rw [show w.heap[b]? = _ from h]; rfl
theorem Six.not_row (h : Six w b z0 z1 z2 z3 z4 z5) {e : TypeId} (hte : 114 ≠ e) {base size k : Nat} {v : Value} {xs : List Value} (hr : w.ownsRow base e size v k xs) : v.ownBlock ≠ some b := fun he => by
  rcases hr.2 with ⟨h1, _⟩ | ⟨g, cap, cur, h1, _, h3, _⟩
  · rw [h1] at he; cases he
  · rw [h1] at he
    cases he
    rw [show w.heap[_]? = _ from h] at h3
    simp only [Option.some.injEq, Obj.cells.injEq] at h3
    exact hte h3.2.1
end
section
variable {w w' : World} {b : Nat} {R : R4} {x y : Value}
theorem TwO.lt (h : TwO w b R x y) : b < w.heap.size := Six.lt h
theorem TwO.c0 (h : TwO w b R x y) : w.cell? ⟨b, 2, none⟩ = some x := Six.c2 h
theorem TwO.c1 (h : TwO w b R x y) : w.cell? ⟨b, 3, none⟩ = some y := Six.c3 h
theorem TwO.f0 (h : TwO w b R x y) : w.frozen? ⟨b, 2, none⟩ = false := Six.f h 2
theorem TwO.f1 (h : TwO w b R x y) : w.frozen? ⟨b, 3, none⟩ = false := Six.f h 3
theorem TwO.kept {S : Nat → Prop} (h : TwO w b R x y) (hk : Kept S w w') (hs : ¬ S b) : TwO w' b R x y := Six.kept h hk hs
theorem TwO.below (h : TwO w b R x y) (hb : Below w.heap.size w w') : TwO w' b R x y := Six.below h hb
theorem TwO.grown {row : Option Nat} (h : TwO w b R x y) (hg : w.grownBy w' row) (hne : row ≠ some b) : TwO w' b R x y := Six.grown h hg hne
theorem TwO.set0 (h : TwO w b R x y) (u : Value) : TwO (w.setCell ⟨b, 2, none⟩ u) b R u y := Six.set2 h u
theorem TwO.set1 (h : TwO w b R x y) (u : Value) : TwO (w.setCell ⟨b, 3, none⟩ u) b R x u := Six.set3 h u
theorem TwO.not_row (h : TwO w b R x y) {e : TypeId} (hte : 114 ≠ e) {base size k : Nat} {v : Value} {xs : List Value} (hr : w.ownsRow base e size v k xs) : v.ownBlock ≠ some b := Six.not_row h hte hr
theorem TwI.lt (h : TwI w b R x y) : b < w.heap.size := Six.lt h
theorem TwI.c0 (h : TwI w b R x y) : w.cell? ⟨b, 4, none⟩ = some x := Six.c4 h
theorem TwI.c1 (h : TwI w b R x y) : w.cell? ⟨b, 5, none⟩ = some y := Six.c5 h
theorem TwI.f0 (h : TwI w b R x y) : w.frozen? ⟨b, 4, none⟩ = false := Six.f h 4
theorem TwI.f1 (h : TwI w b R x y) : w.frozen? ⟨b, 5, none⟩ = false := Six.f h 5
theorem TwI.kept {S : Nat → Prop} (h : TwI w b R x y) (hk : Kept S w w') (hs : ¬ S b) : TwI w' b R x y := Six.kept h hk hs
theorem TwI.below (h : TwI w b R x y) (hb : Below w.heap.size w w') : TwI w' b R x y := Six.below h hb
theorem TwI.grown {row : Option Nat} (h : TwI w b R x y) (hg : w.grownBy w' row) (hne : row ≠ some b) : TwI w' b R x y := Six.grown h hg hne
theorem TwI.set0 (h : TwI w b R x y) (u : Value) : TwI (w.setCell ⟨b, 4, none⟩ u) b R u y := Six.set4 h u
theorem TwI.set1 (h : TwI w b R x y) (u : Value) : TwI (w.setCell ⟨b, 5, none⟩ u) b R x u := Six.set5 h u
theorem TwI.not_row (h : TwI w b R x y) {e : TypeId} (hte : 114 ≠ e) {base size k : Nat} {v : Value} {xs : List Value} (hr : w.ownsRow base e size v k xs) : v.ownBlock ≠ some b := Six.not_row h hte hr
end
end Go.Proofs.YtganokcmcdkdgaaGreat.Wi
