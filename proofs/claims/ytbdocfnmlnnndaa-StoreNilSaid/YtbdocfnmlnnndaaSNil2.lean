/-
  A nil store's Drop. Conditions: none.
-/
import Derived.Test.YtbdocfnmlnnndaaSNil
namespace Go.Proofs.Ytbdocfnmlnnndaa.Sr
open Go.RowKit Fr

set_option maxRecDepth 100000 in
theorem nil_drop0 (w : World) : Calls Try.prog 17 #[.pointer none, .slice none 0 0] w fun e w' => e = .returned (.int .i64 0) ∧ w = w' := by
  go_enter Try.func17, Try.ntmps17
  go_wp2
  go_loopg [10] 0 (fun (gh : Nat) s10 wx => gh = 0 ∧ s10 = .int .i64 0 ∧ wx = w)
  case atStart => exact ⟨rfl, rfl, rfl⟩
  case round =>
    obtain ⟨rfl, rfl, rfl⟩ := hrel
    go_wp2
    go_ret
    exact ⟨rfl, rfl⟩
set_option maxRecDepth 100000 in
theorem nil_drop (w : World) (k : ByteArray) : Calls Try.prog 17 #[.pointer none, .slice (some ⟨w.heap.size, 0, none⟩) 1 1] (w.alloc (.cells #[.string k] 9)) fun e w' => e = .returned (.int .i64 14) ∧ Below w.heap.size w w' := by
  have c0 : (w.alloc (.cells #[.string k] 9)).cell? ⟨w.heap.size, 0, none⟩ = some (.string k) := (block_cell (block_new w (.cells #[.string k] 9))).1
  have hl : Below w.heap.size w (w.alloc (.cells #[.string k] 9)) := (Below.refl _ _).alloc (Nat.le_refl _) _
  generalize w.alloc (.cells #[.string k] 9) = W at c0 hl ⊢
  generalize hg : w.heap.size = g at c0 ⊢
  have HF := Lib.hid (nil_drop1 W k)
  have HL := Lib.hid hl
  have HG := Lib.hid hg
  clear hl hg
  go_enter Try.func17, Try.ntmps17
  go_wp2
  go_loopg [10] 0 (fun (gh : Nat) s10 wx => gh = 0 ∧ s10 = .int .i64 0 ∧ W = wx)
  case atStart => exact ⟨rfl, rfl, rfl⟩
  case round =>
    obtain ⟨rfl, rfl, rfl⟩ := hrel
    go_wp2_with (go_at_call 46; (with_reducible refine HF.out.mono ?_); rintro e w1 ⟨rfl, hb1⟩; have HB1 := Lib.hid hb1; clear hb1)
    go_ret
    exact ⟨rfl, (HL.out.mono (Nat.le_of_eq HG.out.symm)).trans (HB1.out.mono (by have := HL.out.size; have := HG.out; omega))⟩
end Go.Proofs.Ytbdocfnmlnnndaa.Sr
