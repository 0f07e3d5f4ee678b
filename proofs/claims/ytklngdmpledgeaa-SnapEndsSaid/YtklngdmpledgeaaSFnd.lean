/-
  find with no other name. Conditions: a store.
-/
import Derived.Test.YtklngdmpledgeaaSRnm
import Derived.Test.YtklngdmpledgeaaSNil
namespace Go.Proofs.Ytklngdmpledgeaa.Sr
open Go.RowKit Fr

set_option maxRecDepth 100000 in
set_option maxHeartbeats 2000000 in
theorem find_none (w : World) (p : Nat) (s : S) (mb : Option Nat) (L : List Fi) (k : ByteArray) (h : StR w p s mb L) :
    Calls Try.prog 71 #[.pointer (some ⟨p, 0, none⟩), .string k, .slice none 0 0] w fun e w' => e = .returned (.int .i64 (fnd s.d L k [k])) ∧ Below w.heap.size w w' := by
  obtain ⟨v1, w1, hr1, ho1, hg1⟩ := str_append w (.slice none 0 0) [] (World.ownsRow_nil _ _ _ _) (by simp) k
  have HS := Lib.hid h
  have HR1 := Lib.hid hr1
  have HB1 : Hid (Below w.heap.size w w1) := ((Below.refl _ _).alloc (Nat.le_refl _) _).grown hg1 (by simp) (fun i e => by cases e)
  obtain ⟨g1, c1, hv1, hn1⟩ := nrow_own (ns := [k]) ho1 (Nat.succ_pos _)
  have hv1 : v1 = .slice (some ⟨g1, 0, none⟩) 1 c1 := hv1
  subst hv1
  have HN1 := Lib.hid hn1
  have hrd : Calls Try.prog 60 #[.pointer (some ⟨p, 0, none⟩), .slice (some ⟨g1, 0, none⟩) 1 c1] w1 fun e w' => e = .returned (.int .i64 (rdy s.d [k])) ∧ Below w1.heap.size w1 w' := ready_any w1 p s mb g1 c1 [k] (h.below HB1.out).blk hn1 (by simp)
  have hlk : ∀ W1, StR W1 p s mb L → (Instr.lookup 94 (.map mb) (.string k) true).run Try.prog W1 = .ok (.tuple #[valL L k, .bool (hasL L k)]) W1 := fun W1 h2 => by
    have := lookup_run (w := W1) h2.map k true
    rw [if_pos rfl] at this; exact this
  obtain ⟨r, hr⟩ : ∃ r, r = rdy s.d [k] := ⟨_, rfl⟩
  obtain ⟨hh, hhh⟩ : ∃ hh, hh = hasL L k := ⟨_, rfl⟩
  have HF : Hid (fnd s.d L k [k] = if r ≠ 0 then r else if hh = true then 0 else 13) := by
    show _ = _
    rw [hr, hhh]; rfl
  rw [← hr] at hrd
  rw [← hhh] at hlk
  have HRD := Lib.hid hrd
  have HLK := Lib.hid hlk
  clear h hr1 ho1 hg1 hn1 hrd hlk hr hhh
  by_cases hr0 : r = 0
  · subst hr0
    have HF2 : Hid (fnd s.d L k [k] = if hh = true then 0 else 13) := by
      show _ = _
      rw [HF.out, if_neg (by decide)]
    clear HF
    cases hh
    · go_enter Try.func71, Try.ntmps71
      go_wp2_with (first
      | (at_builtin; refine Lib.wpList_append_run _ rfl _ _ 54 54 rfl _ _ rfl rfl _ _ HR1.out ?_)
      | (go_at_call 60; (with_reducible refine HRD.out.mono ?_); rintro e3 w3 ⟨rfl, hb3⟩
         have HB3 : Hid (Below w.heap.size w w3) := HB1.out.trans (hb3.mono HB1.out.size)
         have c5 := (blk_cells (HS.out.below HB3.out).blk).1.2.2.2.2.2
         have hlk := HLK.out w3 (HS.out.below HB3.out)
         clear hb3))
      go_ret
      exact ⟨ret_int HF2.out.symm, HB3.out⟩
    · go_enter Try.func71, Try.ntmps71
      go_wp2_with (first
      | (at_builtin; refine Lib.wpList_append_run _ rfl _ _ 54 54 rfl _ _ rfl rfl _ _ HR1.out ?_)
      | (go_at_call 60; (with_reducible refine HRD.out.mono ?_); rintro e3 w3 ⟨rfl, hb3⟩
         have HB3 : Hid (Below w.heap.size w w3) := HB1.out.trans (hb3.mono HB1.out.size)
         have c5 := (blk_cells (HS.out.below HB3.out).blk).1.2.2.2.2.2
         have hlk := HLK.out w3 (HS.out.below HB3.out)
         clear hb3))
      go_ret
      exact ⟨ret_int HF2.out.symm, HB3.out⟩
  · have hrb : (r != 0) = true := by simpa using hr0
    have HF2 : Hid (fnd s.d L k [k] = r) := by
      show _ = _
      rw [HF.out, if_pos hr0]
    clear HF
    go_enter Try.func71, Try.ntmps71
    go_wp2_with (first
      | (at_builtin; refine Lib.wpList_append_run _ rfl _ _ 54 54 rfl _ _ rfl rfl _ _ HR1.out ?_)
      | (go_at_call 60; (with_reducible refine HRD.out.mono ?_); rintro e3 w3 ⟨rfl, hb3⟩
         have HB3 : Hid (Below w.heap.size w w3) := HB1.out.trans (hb3.mono HB1.out.size)
         have c5 := (blk_cells (HS.out.below HB3.out).blk).1.2.2.2.2.2
         have hlk := HLK.out w3 (HS.out.below HB3.out)
         clear hb3))
    go_ret
    exact ⟨ret_int HF2.out.symm, HB3.out⟩
end Go.Proofs.Ytklngdmpledgeaa.Sr
