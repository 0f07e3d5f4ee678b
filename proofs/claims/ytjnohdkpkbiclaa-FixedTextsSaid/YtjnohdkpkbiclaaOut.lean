/-
  A struct of the call's own whose second field is a slice of ints of the call's own, appended to: what each step leaves. Conditions: those in each lemma.
-/
import Derived.Test.YtjnohdkpkbiclaaWords
namespace Go.Proofs.Ytjnohdkpkbiclaa
open Go.RowKit

/-- Block b is the struct 'neg, the digits os', and the digits lie in rows of the call's own behind b. -/
def OutAt (w : World) (b : Nat) (neg : Bool) (os : List Int) (A : Option Addr) (c : Nat) : Prop :=
  w.heap[b]? = some (.cells #[.bool neg, .slice A os.length c] 25 (0, 0)) ∧ w.ownsRow (b + 1) 3 1 (.slice A os.length c) os.length (ints os)

theorem blk2 {w : World} {b : Nat} {x y : Value} {t : TypeId} (h : w.heap[b]? = some (.cells #[x, y] t (0, 0))) :
    w.cell? ⟨b, 0, none⟩ = some x ∧ w.cell? ⟨b, 1, none⟩ = some y ∧ w.frozen? ⟨b, 0, none⟩ = false ∧ w.frozen? ⟨b, 1, none⟩ = false :=
  ⟨by rw [cell_of_row w b 0 _ _ _ h]; rfl, by rw [cell_of_row w b 1 _ _ _ h]; rfl, by simp [World.frozen?, h], by simp [World.frozen?, h]⟩

theorem OutAt.digs {w : World} {b : Nat} {neg : Bool} {os : List Int} {A : Option Addr} {c : Nat} (h : OutAt w b neg os A c) : Digs w (.slice A os.length c) os := Digs.of_owns h.2

/-- Behind an append: what is in the block is there still; the new slice's shape. -/
theorem OutAt.grown {w w1 : World} {b : Nat} {neg : Bool} {os : List Int} {A : Option Addr} {c : Nat} {o : Obj} {d : Int} {v' : Value} (h : OutAt w b neg os A c)
    (hg : (w.alloc o).grownBy w1 (Value.slice A os.length c).ownBlock) (hown : w1.ownsRow (b + 1) 3 1 v' (os.length + 1) (ints os ++ [.int .i64 d])) :
    w1.heap[b]? = some (.cells #[.bool neg, .slice A os.length c] 25 (0, 0)) ∧ ∃ A' c', v' = .slice A' (os.length + 1) c' := by
  constructor
  · rw [hg.block b (by have := (Array.getElem?_eq_some_iff.1 h.1).1; simp; omega) (fun e => by have := (h.2.lt b e.symm).1; omega), Below.heap_alloc w o b (Array.getElem?_eq_some_iff.1 h.1).1]
    exact h.1
  · rcases hown.2 with ⟨_, h0⟩ | ⟨g, cap, cur, hv, _⟩
    · omega
    · exact ⟨some ⟨g, 0, none⟩, cap, hv⟩

/-- Behind the store of the new slice. -/
theorem OutAt.stored {w1 : World} {b : Nat} {neg : Bool} {os : List Int} {d : Int} {A' : Option Addr} {c' : Nat} {y : Value}
    (hb : w1.heap[b]? = some (.cells #[.bool neg, y] 25 (0, 0))) (hown : w1.ownsRow (b + 1) 3 1 (.slice A' (os.length + 1) c') (os.length + 1) (ints os ++ [.int .i64 d])) :
    OutAt (w1.setCell ⟨b, 1, none⟩ (.slice A' (os.length + 1) c')) b neg (os ++ [d]) A' c' := by
  have el : (os ++ [d]).length = os.length + 1 := by simp
  unfold OutAt
  rw [el]
  constructor
  · simp only [World.setCell, Array.getElem?_modify, if_true]
    rw [hb]; rfl
  · rw [ints_snoc] at hown
    exact ownsRow_setCell_below hown (a := ⟨b, 1, none⟩) (by show b < b + 1; omega) _
end Go.Proofs.Ytjnohdkpkbiclaa
