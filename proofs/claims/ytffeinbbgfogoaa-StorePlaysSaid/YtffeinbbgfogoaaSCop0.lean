/-
  Copy of a store without a map. Conditions: a store.
-/
import Derived.Test.YtffeinbbgfogoaaSCopy
import Derived.Test.YtffeinbbgfogoaaSDie1
namespace Go.Proofs.Ytffeinbbgfogoaa.Sr
open Go.RowKit Fr

set_option maxRecDepth 100000 in
set_option maxHeartbeats 1000000 in
theorem copy_none (w : World) (p : Nat) (s : S) (h : StR w p s none []) :
    Calls Try.prog 23 #[.pointer (some ⟨p, 0, none⟩)] w fun e w' => e = .returned (.pointer (some ⟨w.heap.size, 0, none⟩)) ∧ ∃ mb' L', Copied w w' s [] mb' L' := by
  obtain ⟨⟨c0, c1, c2, c3, c4, c5⟩, _⟩ := blk_cells h.blk
  have hmk := makeMap_hint
  have hrg := run_range_nilMap (P := Try.prog)
  have hnx : ∀ (w : World) ty, (Instr.next (.pointer (some ⟨w.heap.size, 0, none⟩)) false ty).run Try.prog (w.alloc (.mapIter none 0 #[] 0)) = .ok (.tuple #[.bool false]) (w.alloc (.mapIter none 0 #[] 0)) := fun w ty => run_next_nilMap w ty 0 0 #[]
  have HS := Lib.hid h
  clear h
  have hlt : p < w.heap.size := (Array.getElem?_eq_some_iff.1 HS.out.blk).1
  obtain ⟨q, hq⟩ : ∃ q, q = w.heap.size := ⟨_, rfl⟩
  have HQ := Lib.hid hq
  rw [← hq] at ⊢ hlt
  go_enter Try.func23, Try.ntmps23
  go_upto_region 4 with fail
  rw [← hq]
  generalize hW1 : w.alloc (.cells #[.bool s.a, .int .i64 s.n, .bool s.d, .int .i64 s.room, .int .i64 s.used, .map none] 81) = W1
  have HS1 : Hid (StR W1 p s none []) := by
    show StR _ _ _ _ _
    rw [← hW1]; exact HS.out.below ((Below.refl _ _).alloc (Nat.le_refl _) _)
  have HC1 : Hid (W1.heap[q]? = some (blk s none)) := by
    show _ = _
    rw [← hW1, hq]; exact block_new _ _
  have HB1 : Hid (Below w.heap.size w W1) := by
    show Below _ _ _
    rw [← hW1]; exact (Below.refl _ _).alloc (Nat.le_refl _) _
  have hsz : W1.heap.size = q + 1 := by rw [← hW1, hq]; simp
  have HSZ := Lib.hid hsz
  clear hW1 c0 c1 c2 c3 c4 c5 hq hsz
  have d5 := (blk_cells HS1.out.blk).1.2.2.2.2.2
  have g5 := (blk_cells HC1.out).2.2.2.2.2.2
  have q5 := (blk_cells HC1.out).1.2.2.2.2.2
  have hlen : (Builtin.len_ #[79] 3 #[.map none]).run Try.prog W1 = .ok (.int .i64 0) W1 := run_len_nilMap W1 _ _ mapT
  have hq1 : q < W1.heap.size := by have := HSZ.out; omega
  go_upto_region 5 with fail
  generalize hb' : W1.heap.size = b'
  generalize hW2 : (W1.setCell ⟨q, 5, none⟩ (.map (some b'))).alloc (.map #[] 0) = W2
  have hsq : (W1.setCell ⟨q, 5, none⟩ (.map (some b'))).heap.size = b' := by rw [show (W1.setCell ⟨q, 5, none⟩ (.map (some b'))).heap.size = W1.heap.size by simp [World.setCell]]; exact hb'
  have HB2 : Hid (Below w.heap.size w W2) := by
    show Below _ _ _
    rw [← hW2]
    exact (HB1.out.setCell (by show w.heap.size ≤ q; rw [HQ.out]; exact Nat.le_refl _) _).alloc (by rw [hsq]; have := HSZ.out; have := HQ.out; omega) _
  have HC2 : Hid (W2.heap[q]? = some (blk s (some b'))) := by
    show _ = _
    rw [← hW2]; exact block_old (blk_set HC1.out 5 _ (by simp)) _
  have HM2 : Hid (MapR W2 b' []) := by
    refine ⟨#[], 0, ?_, Go.MapKept.stamped_empty 0, rfl⟩
    have := block_new (W1.setCell ⟨q, 5, none⟩ (.map (some b'))) (.map #[] 0)
    rw [hsq, hW2] at this; exact this
  have HBB : Hid (w.heap.size ≤ b') := by
    have := HSZ.out; have := HQ.out
    show _ ≤ _
    omega
  have d5 := (blk_cells (HS.out.below HB2.out).blk).1.2.2.2.2.2
  have hrg2 := hrg W2 79 9 32 mapT
  have hnx2 := hnx W2
  clear hW2 hsq hb' hlen hq1 hrg hmk g5 q5 hnx
  go_wp2
  generalize hr : W2.heap.size = r at hnx2
  generalize hW3 : W2.alloc (.mapIter none 0 #[] 0) = W3 at hnx2
  have HB3 : Hid (Below W2.heap.size W2 W3) := by
    show Below _ _ _
    rw [← hW3]; exact (Below.refl _ _).alloc (Nat.le_refl _) _
  clear hr hW3 hrg2 d5
  go_loopg [23] 0 (fun (gh : Nat) s23 wx => gh = 0 ∧ s23 = s23 ∧ W3 = wx)
  case atStart => exact ⟨rfl, rfl, rfl⟩
  case round =>
    obtain ⟨rfl, _, rfl⟩ := hrel
    go_wp2
    go_ret
    have h1 : MapO W3 (some b') [] := MapO.below (mb := some b') HM2.out HB3.out
    refine ⟨rfl, some b', [], ⟨?_, h1, fun x hx => (by cases hx), List.Pairwise.nil, List.Pairwise.nil, HS.out.used, HS.out.room, HS.out.left⟩, HB2.out.trans (HB3.out.mono HB2.out.size), fun i hi => ?_, fun _ => ⟨rfl, rfl⟩⟩
    · rw [← HQ.out]; exact block_kept HC2.out HB3.out
    · rcases hi with h2 | h2 | ⟨x, hx, _⟩
      · omega
      · cases h2; exact HBB.out
      · cases hx
theorem copy_all (w : World) (p : Nat) (s : S) (mb : Option Nat) (L : List Fi) (h : StR w p s mb L) :
    Calls Try.prog 23 #[.pointer (some ⟨p, 0, none⟩)] w fun e w' => e = .returned (.pointer (some ⟨w.heap.size, 0, none⟩)) ∧ ∃ mb' L', Copied w w' s L mb' L' := by
  cases mb with
  | none =>
    cases (show L = [] from h.map)
    exact copy_none w p s h
  | some b => exact copy_any w p s b L h
end Go.Proofs.Ytffeinbbgfogoaa.Sr
