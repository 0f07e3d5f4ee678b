/-
  A nil store's Names. Conditions: none.
-/
import Derived.Test.YtffeinbbgfogoaaSNil
import Derived.Test.YtffeinbbgfogoaaIKeys
namespace Go.Proofs.Ytffeinbbgfogoaa.Sr
open Go.RowKit Go.Maps Go.Sort Fr

set_option maxRecDepth 100000 in
set_option maxHeartbeats 1000000 in
theorem nil_names (w : World) : Calls Try.prog 31 #[.pointer none] w fun e w' => e = .returned (.slice none 0 0) ∧ Below w.heap.size w w' := by
  have HO := orDown_nil w
  have c5 : (w.alloc (blk nilS none)).cell? ⟨w.heap.size, 5, none⟩ = some (.map none) := (blk_cells (nil_blk w)).1.2.2.2.2.2
  have hl := nil_bel w
  generalize w.alloc (blk nilS none) = W at HO c5 hl
  have HL := Lib.hid hl
  have HO := Lib.hid HO
  have HK := Lib.hid (Try.maps_Keys_65 none W)
  have HS := Lib.hid (Try.slices_Sorted_keys_nil_64_65 W)
  clear hl
  refine (callsIn_wide (n := 6)).1 ?_
  have hfK : Fence.wide.fn 65 := trivial
  have hfS : Fence.wide.fn 64 := trivial
  have hfO : Fence.wide.fn 61 := trivial
  refine callsIn_of_wp Try.func31 rfl trivial ?_ rfl
  simp only [Try.ntmps31, List.size_toArray, List.length_cons, List.length_nil, Nat.reduceAdd, Nat.reduceSub, Array.replicate_succ, Array.replicate_zero, List.push_toArray, List.append_toArray, List.nil_append, List.cons_append]
  gi_wp2_with (first
    | (gi_at_call 61; refine (callsIn_wide.2 HO.out).mono ?_; rintro e w' ⟨rfl, rfl⟩)
    | (gi_at_call 65; refine HK.out.mono ?_; rintro e w' ⟨rfl, rfl⟩)
    | (gi_at_call 64; refine HS.out.mono ?_; rintro e w2 ⟨v, ss, rfl, hS, hrow, hnil, hb⟩))
  go_ret
  exact ⟨by rw [hnil.2 hS]; rfl, HL.out.trans (((Below.refl _ _).alloc HL.out.size _).trans (hb.mono (by have := HL.out.size; simp; omega)))⟩
end Go.Proofs.Ytffeinbbgfogoaa.Sr
