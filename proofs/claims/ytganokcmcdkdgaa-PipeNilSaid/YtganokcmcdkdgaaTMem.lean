/-
  A run of stores into a row: the row behind it, and what it leaves alone. Conditions: places within the row.
-/
import Derived.Test.YtganokcmcdkdgaaTBase
import Derived.Laws.IdiomCopy
import Derived.Laws.CopyOwn
import Derived.Lib.Overlaps
import Derived.Lib.AppendZerosOnto
import Derived.Laws.NewBlocks
import Derived.Shelf.Spec.SlicesInsert
import Derived.Deep.Upon
namespace Go.Proofs.Ytganokcmcdkdgaa.Tb
open Go.RowKit

def setL {α : Type} (L : List α) : Nat → List α → List α
  | _, [] => L
  | o, v :: r => setL (L.set o v) (o + 1) r
theorem setL_eq {α : Type} : ∀ (cs : List α) (L : List α) (o : Nat), o + cs.length ≤ L.length → setL L o cs = L.take o ++ (cs ++ L.drop (o + cs.length))
  | [], L, o, _ => by simp [setL]
  | v :: r, L, o, h => by
    have h' : o < L.length := by simp at h; omega
    rw [setL, setL_eq r _ (o + 1) (by simp at h ⊢; omega), List.take_set, List.drop_set, if_pos (by omega)]
    rw [List.take_succ_eq_append_getElem h', List.set_append_right _ _ (by rw [List.length_take]; omega), List.length_take, Nat.min_eq_left (by omega), Nat.sub_self]
    simp [show o + 1 + r.length = o + (r.length + 1) by omega]
theorem heap_setCells (g : Nat) (t : TypeId) : ∀ (cs : List Value) (o : Nat) (w : World) (cur : Array Value), w.heap[g]? = some (.cells cur t (0, 0)) → (w.setCells g o cs).heap[g]? = some (.cells (setL cur.toList o cs).toArray t (0, 0))
  | [], o, w, cur, h => by simpa [World.setCells, setL] using h
  | v :: r, o, w, cur, h => by
    rw [World.setCells, setL]
    have := heap_setCells g t r (o + 1) (w.setCell ⟨g, o, none⟩ v) (cur.setIfInBounds o v) (heap_setCell_same w g o cur t v h)
    simpa using this
theorem grownBy_setCells (g : Nat) : ∀ (cs : List Value) (o : Nat) (w : World), w.grownBy (w.setCells g o cs) (some g)
  | [], _, w => ⟨rfl, rfl, rfl, Nat.le_refl _, fun _ _ _ => rfl⟩
  | v :: r, o, w => by
    rw [World.setCells]
    have h := grownBy_setCells g r (o + 1) (w.setCell ⟨g, o, none⟩ v)
    refine ⟨h.os, h.tape, h.output, Nat.le_trans (by simp [World.setCell]) h.size, fun k hk hne => ?_⟩
    rw [h.block k (by simpa [World.setCell] using hk) hne]
    exact Below.heap_setCell _ _ _ _ (fun e => hne (by rw [e]))
theorem grownBy_trans {a b c : World} {row : Option Nat} (h : a.grownBy b row) (k : b.grownBy c row) : a.grownBy c row :=
  ⟨k.os.trans h.os, k.tape.trans h.tape, k.output.trans h.output, Nat.le_trans h.size k.size, fun i hi hn => (k.block i (Nat.lt_of_lt_of_le hi h.size) hn).trans (h.block i hi hn)⟩
theorem grownBy_drew (w : World) (row : Option Nat) : w.grownBy w.drew row := ⟨rfl, rfl, rfl, Nat.le_refl _, fun _ _ _ => rfl⟩
theorem grownBy_of_below {w w' : World} (row : Option Nat) (h : Below w.heap.size w w') : w.grownBy w' row := ⟨h.os, h.tape, h.output, h.size, fun k hk _ => h.block k hk⟩
end Go.Proofs.Ytganokcmcdkdgaa.Tb
