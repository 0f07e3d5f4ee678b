/-
  A writer beside two blocks that are not its own: what each call leaves. Conditions: none.
-/
import Derived.Test.YteahloddjekakaaDoorNBase
import Derived.Test.YteahloddjekakaaDoorNRow
import Derived.Test.YteahloddjekakaaDoorNAnd
import Derived.Test.YteahloddjekakaaDoorOWide
import Derived.Test.YteahloddjekakaaDoorODone
namespace Go.Proofs.YteahloddjekakaaDoor.Nt
open Go.RowKit Td

/-- The writer b has the bytes l; the blocks nb and ab are as they were laid, and not its own. -/
structure EncS (w0 : World) (b nb ab : Nat) (o1 o2 : Obj) (l : List Int) (v : Value) (w : World) : Prop where
  wr : Oc.WrR w b 0 l v
  bel : Below w0.heap.size w0 w
  h1 : w.heap[nb]? = some o1
  h2 : w.heap[ab]? = some o2
  n1 : nb ≠ b
  n2 : ab ≠ b
  v1 : v.ownBlock ≠ some nb
  v2 : v.ownBlock ≠ some ab
  hb : w0.heap.size ≤ b
theorem EncS.step {w0 w w' : World} {b nb ab : Nat} {o1 o2 : Obj} {l l' : List Int} {v : Value} (S : EncS w0 b nb ab o1 o2 l v w) (h : Oc.WrTo b v w 0 l' w') : ∃ v', EncS w0 b nb ab o1 o2 l' v' w' := by
  obtain ⟨v', hw, hf⟩ := h
  have own : ∀ k, k < w.heap.size → v.ownBlock ≠ some k → v'.ownBlock ≠ some k := fun k hk hn e => by
    rcases hf.own k e with h1 | h1
    · exact hn h1
    · omega
  exact ⟨v', hw, S.bel.trans (hf.below S.wr S.hb), hf.at S.h1 S.n1 S.v1, hf.at S.h2 S.n2 S.v2, S.n1, S.n2, own nb (Array.getElem?_eq_some_iff.1 S.h1).1 S.v1, own ab (Array.getElem?_eq_some_iff.1 S.h2).1 S.v2, S.hb⟩
theorem EncS.kept {w0 w w' : World} {b nb ab : Nat} {o1 o2 : Obj} {l : List Int} {v : Value} (S : EncS w0 b nb ab o1 o2 l v w) (h : Below w.heap.size w w') : EncS w0 b nb ab o1 o2 l v w' :=
  ⟨S.wr.below h, S.bel.trans (h.mono S.bel.size), block_kept S.h1 h, block_kept S.h2 h, S.n1, S.n2, S.v1, S.v2, S.hb⟩
theorem wr_new (w : World) : Oc.WrR (w.alloc (.cells #[.int .i64 0, .slice none 0 0] 77)) w.heap.size 0 [] (.slice none 0 0) :=
  ⟨block_new w _, World.ownsRow_nil _ _ _ _, by simp⟩
/-- The first byte is written, then a block is laid. -/
theorem enc_first {w0 w1 w2 : World} {nb : Nat} {o1 : Obj} {l : List Int} (h1 : w1.heap[nb]? = some o1) (hb1 : Below w0.heap.size w0 w1) (h : Oc.WrTo w1.heap.size (.slice none 0 0) (w1.alloc (.cells #[.int .i64 0, .slice none 0 0] 77)) 0 l w2) :
    Below w1.heap.size w1 w2 ∧ ∀ (cs : Array Value) (t : TypeId), ∃ v, EncS w0 w1.heap.size nb w2.heap.size o1 (.cells cs t (0, 0)) l v (w2.alloc (.cells cs t)) := by
  obtain ⟨v, hw, hf⟩ := h
  have hlt := (Array.getElem?_eq_some_iff.1 h1).1
  have hA : Below w1.heap.size w1 (w1.alloc (.cells #[.int .i64 0, .slice none 0 0] 77)) := (Below.refl _ _).alloc (Nat.le_refl _) _
  have hB : Below w1.heap.size w1 w2 := hA.trans (hf.below (wr_new w1) (Nat.le_refl _))
  refine ⟨hB, fun cs t => ⟨v, hw.below ((Below.refl _ _).alloc (Nat.le_refl _) _), (hb1.trans (hB.mono hb1.size)).alloc (Nat.le_trans hb1.size hB.size) _, block_old (block_kept h1 hB) _, block_new _ _, by omega, ?_, ?_, ?_, hb1.size⟩⟩
  · have := hw.lt; omega
  · intro e
    have := (hw.2.1.lt _ e).1
    omega
  · intro e
    have := (hw.2.1.lt _ e).2
    omega

end Go.Proofs.YteahloddjekakaaDoor.Nt
