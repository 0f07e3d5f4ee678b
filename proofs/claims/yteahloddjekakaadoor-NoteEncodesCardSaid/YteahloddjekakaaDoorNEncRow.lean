/-
  PROVED: NoteEncodes answers true for every note, and leaves its argument as it was. Conditions: the table of kinds holds what the program's text lays (tied by the card); none beyond the parameters' own types.
-/
import Derived.Test.YteahloddjekakaaDoorNLEnc
import Derived.Test.YteahloddjekakaaDoorNM22
import Derived.Test.YteahloddjekakaaDoorCards
import Derived.Test.YteahloddjekakaaDoorTie
import Derived.SevenTiedAt
import Derived.Handed
import Derived.Lay
namespace Go.Proofs.YteahloddjekakaaDoor
open Go.ChangeShapes Go.WideShapes Go.ChangeAt Go.RowKit Go.Joins Go.Deep

theorem enc_own : ownKnob Tryd.prog.godebug = none := by kernel_rfl
theorem enc_laidOut : laidOutB Tryd.prog = true := by kernel_rfl

theorem i64_of {x : Int} (h : Td.I64 x) : Nt.I64 x := by unfold Td.I64 at h; unfold Nt.I64; omega
set_option maxRecDepth 100000 in
theorem enc_lifted (os : Os) (started : os.Started) (H : Type) (enc : TypeId × Value → H) :
    ReturnsInHanded {} Tryd.checked os 4 .any (fun w args => (Rows.noteEncodesSpec.pre enc Tryd.prog Tryd.f4 [] false w args ∧ laidMetH Tryd.prog Rows.noteEncodesRow.laid w) ∧ sizedMet enc Tryd.prog Tryd.f4 (OpenSpec.ofChange Rows.noteEncodesSpec) false w args)
      (Rows.noteEncodesSpec.post enc Tryd.prog Tryd.f4 false true false false) := by
  refine returnsInHanded_of_change_and (C := Tryd.checked) (X := fun w _ => laidMetH Tryd.prog Rows.noteEncodesRow.laid w) (fun _ _ _ hh h => h.of_heap hh) enc_own started (by kernel_rfl) Tryd.func4
    (ChangeSpec.witness_shaped (enc := enc) (C := Tryd.checked) (os := os) (X := fun w _ => laidMetH Tryd.prog Rows.noteEncodesRow.laid w) false (World.laidAll Tryd.prog os Rows.noteEncodesRow.laid) #[.agg #[.int .i64 0, .int .i64 0, .int .i64 0, .int .i64 0, .string { data := #[] }, .string { data := #[] }, .string { data := #[] }, .int .i64 0, .int .i64 0, .string { data := #[] }, .int .i64 0, .slice none 0 0, .int .i64 0, .int .u64 0]] 8 (World.laidAll_os _ _ _)
      (World.shaped_of_ZipB (by kernel_rfl) (by kernel_rfl)) (by kernel_rfl) (by kernel_rfl) (by kernel_rfl)
      (by rw [MakeChecks.laidMetH_plain _ _ _ (by kernel_rfl)]; exact laidMet_laidAll _ (by kernel_rfl) (by kernel_rfl))) ?_
  intro W base args ds gs before hval0 hW _ _ hL _
  have hk := Nt.kin_of_laid W hL
  have hval : ∀ (j : Nat) t v, Tryd.f4.params[j]? = some t → args[j]? = some v → Value.okWide Tryd.prog W .any base t v := hval0
  have hW' := hW
  obtain ⟨p, q, hA0, hV, rfl, hfz, hnd⟩ := hW
  have hA : DataW.TrodAll enc Tryd.prog W 0 (fun _ => true) true Tryd.f4.params.toList args.toList ds p := hA0
  rw [Tryd.params4] at hA hval
  obtain ⟨v0, d0, rfl, rfl, h0⟩ := trodAll_one hA
  obtain ⟨rfl, rfl⟩ := trodVars_none hV
  have k0 := h0
  have lt0 : ∀ x ∈ p, x.block < W.heap.size := by obtain ⟨m, hm⟩ := k0; exact DataW.trod_lt m _ _ _ hm
  obtain ⟨a, A, la, c, rfl, ra, hno, hnr⟩ := Nt.open_noteR (hval 0 27 v0 rfl rfl) h0
  obtain ⟨_, _, _, hnt, hna, hnh, hnl⟩ := hno
  clear hA0 hval0
  refine (Nt.law_encodes W hk a (Nt.cutN a) (Lib.hid rfl) A la.length c la (Nt.cutR la) (Lib.hid ra) (Lib.hid rfl) (Lib.hid rfl) ⟨⟨i64_of hnt.1, i64_of hnt.2.1, i64_of hnt.2.2⟩, i64_of hna, i64_of hnh, hnl, fun m hm => i64_of (hnr m hm)⟩).mono fun e W' ⟨he, bel⟩ => ?_
  subst he
  exact ⟨_, rfl, _, _, _, [], _, [], hW', trodAll_mk1 (shut_bool Tryd.underlying4 _), (trodAll_mk1 (Below.trod enc_laidOut (by kernel_rfl) (of_decide_eq_true (by kernel_rfl)) k0 bel lt0)), rfl, bel.frame _, fun h => by cases h⟩

theorem noteEncodes_row : Rows.NoteEncodesSaid :=
  OpenClaim.holds_of_wide 4 Tryd.f4 rfl rfl rfl rfl rfl rfl rfl ⟨rfl, rfl, rfl, rfl, rfl⟩ rfl rfl rfl rfl rfl (by kernel_rfl) Tryd.func4 (by kernel_rfl)
    (of_decide_eq_true (by kernel_rfl)) (by unfold Func.isWrapper; first | (rw [if_pos (by decide +kernel)]; kernel_rfl) | (rw [if_neg (by decide +kernel)]; exact ⟨rfl, rfl⟩))
    (fun os started H enc _ => enc_lifted os started H enc)

/-- The given statement: the tied card. -/
theorem noteEncodes_holds : Rows.NoteEncodesCardSaid :=
  Claim7.holds_tied_plain_at .later [] [.data] true Rows.noteEncodesCard.stood.harness false
    noteEncodes_row (fun _ h => by cases h) (by kernel_rfl) (fun _ h => by cases h) noteEncodes_row_tie rfl ⟨rfl, rfl⟩ (by kernel_rfl) rfl
    (fun f fn hf hfn => by
      obtain rfl : f = 4 := Option.some.inj ((show Tryd.prog.funcNamed Rows.noteEncodesRow.func = some 4 by kernel_rfl).symm.trans hf) |>.symm
      obtain rfl : fn = Tryd.f4 := (Option.some.inj (Tryd.func4.symm.trans hfn)).symm
      exact ⟨by kernel_rfl, fun j t ht => by
        rw [Tryd.params4] at ht
        have hm : t ∈ [27] := by simpa using Array.mem_of_getElem? ht
        have hall : ([27].all fun u => !Tryd.prog.wantsStandIn u) = true := by kernel_rfl
        exact (show Tryd.prog.wantsStandIn t = false by simpa using List.all_eq_true.1 hall t hm)⟩)
    (by kernel_rfl)
#print axioms noteEncodes_holds
end Go.Proofs.YteahloddjekakaaDoor
