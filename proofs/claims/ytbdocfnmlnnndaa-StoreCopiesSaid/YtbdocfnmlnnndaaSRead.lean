/-
  The contract of Read. Conditions: a store.
-/
import Derived.Test.YtbdocfnmlnnndaaSSt
namespace Go.Proofs.Ytbdocfnmlnnndaa.Sr
open Go.RowKit Fr

set_option maxRecDepth 100000 in
set_option maxHeartbeats 1000000 in
theorem read_any (w : World) (p : Nat) (s : S) (mb : Option Nat) (L : List Fi) (k : ByteArray) (h : StR w p s mb L) :
    Calls Try.prog 22 #[.pointer (some ⟨p, 0, none⟩), .string k] w fun e w' => ∃ A n c, e = .returned (.tuple #[.slice A n c, .bool (hasL L k)]) ∧ n = (bytL L k).length ∧ w'.ownsRow w.heap.size 5 1 (.slice A n c) (bytL L k).length (bv (bytL L k)) ∧ Below w.heap.size w w' := by
  have HO := Lib.hid (orDown_own w p)
  obtain ⟨⟨_, _, _, _, _, c5⟩, _⟩ := blk_cells h.blk
  have hlk := lookup_run (w := w) h.map k true
  rw [if_pos rfl] at hlk
  have hr := val_row h.rows k
  have hroom := h.room
  have hle := byt_used L k
  have hcl := clone_any w (valL L k) (bytL L k) (BAt.of_own hr) (by omega)
  obtain ⟨A0, n0, cc, hval⟩ : ∃ A0 n0 cc, valL L k = .slice A0 n0 cc := by
    obtain ⟨A0, cc, e, _⟩ := BAt.of_own hr; exact ⟨A0, _, cc, e⟩
  rw [hval] at hlk hcl
  have HCL := Lib.hid hcl
  obtain ⟨q, hq⟩ : ∃ q, q = hasL L k := ⟨_, rfl⟩
  rw [← hq] at hlk ⊢
  clear hr hroom hle hcl hval h hq
  go_enter Try.func22, Try.ntmps22
  go_wp2_with (first
    | (go_at_call 47; (with_reducible refine HO.out.mono ?_); rintro e w' ⟨rfl, rfl⟩)
    | (go_at_call 41; (with_reducible refine HCL.out.mono ?_); rintro e w3 ⟨v3, rfl, ho3, hb3⟩
       obtain ⟨A4, n4, c4, hv4, hn4⟩ : ∃ A n c, v3 = Value.slice A n c ∧ n = (bytL L k).length := by obtain ⟨A4, c4, hv4, _⟩ := BAt.of_own ho3; exact ⟨A4, _, c4, hv4, rfl⟩
       subst hv4
       have HO3 := Lib.hid ho3
       have HB3 := Lib.hid hb3
       have HN4 := Lib.hid hn4
       clear ho3 hb3 hn4))
  go_ret2
  exact ⟨A4, n4, c4, rfl, HN4.out, HO3.out, HB3.out⟩
end Go.Proofs.Ytbdocfnmlnnndaa.Sr
