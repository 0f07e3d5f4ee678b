/-
  VaultNil's law. Conditions: none.
-/
import Derived.Test.YtjijgoflbjbnfaaGreatVM33
import Derived.Test.YtjijgoflbjbnfaaGreatVM34
namespace Go.Proofs.YtjijgoflbjbnfaaGreat.Vt
open Go.RowKit Fr Sr Jo

set_option maxRecDepth 100000 in
set_option maxHeartbeats 4000000 in
theorem law_nil (w : World) (A : Option Addr) (n c : Nat) (l : List Int) (_ : BAt w (.slice A n c) l) (_ : bok l) (x : Int) :
    Calls Tryz.prog 6 #[.slice A n c, .int .i64 x] w fun e w' => e = .returned (.bool true) ∧ Below w.heap.size w w' := by
  have Hk : Hid (∀ W, Below w.heap.size w W → Calls Tryz.prog 22 #[] W fun e w' => e = .returned (.bool true) ∧ Below w.heap.size w w') := fun W hW => (known_any W).mono fun e w' ⟨he, hb⟩ => ⟨he, hW.trans (hb.mono hW.size)⟩
  have Ha : Hid (∀ W, Below w.heap.size w W → Calls Tryz.prog 10 #[.pointer none, .slice A n c] W fun e w' => e = .returned (.int .i64 10) ∧ Below w.heap.size w w') := fun W hW => (vadd_nil W _).mono fun e w' ⟨he, hb⟩ => ⟨he, hW.trans (hb.mono hW.size)⟩
  have Hp : Hid (∀ W, Below w.heap.size w W → Calls Tryz.prog 12 #[.pointer none] W fun e w' => e = .returned (.int .i64 10) ∧ Below w.heap.size w w') := fun W hW => (vpack_nil W).mono fun e w' ⟨he, hb⟩ => ⟨he, hW.trans (hb.mono hW.size)⟩
  have Hl : Hid (∀ W, Below w.heap.size w W → Calls Tryz.prog 16 #[.pointer none] W fun e w' => e = .returned (.slice none 0 0) ∧ Below w.heap.size w w') := fun W hW => (vall_nil W).mono fun e w' ⟨he, hb⟩ => ⟨he, hW.trans (hb.mono hW.size)⟩
  have Hn : Hid (∀ W, Below w.heap.size w W → Calls Tryz.prog 20 #[.pointer none] W fun e w' => e = .returned (.int .i64 0) ∧ Below w.heap.size w w') := fun W hW => (vlen_nil W).mono fun e w' ⟨he, hb⟩ => ⟨he, hW.trans (hb.mono hW.size)⟩
  have Hs : Hid (∀ W, Below w.heap.size w W → Calls Tryz.prog 19 #[.pointer none] W fun e w' => e = .returned (.bool false) ∧ Below w.heap.size w w') := fun W hW => (vsound_nil W).mono fun e w' ⟨he, hb⟩ => ⟨he, hW.trans (hb.mono hW.size)⟩
  have Hr : Hid (∀ W, Below w.heap.size w W → Calls Tryz.prog 11 #[.pointer none] W fun e w' => e = .returned (.int .i64 0) ∧ Below w.heap.size w w') := fun W hW => (vspare_nil W).mono fun e w' ⟨he, hb⟩ => ⟨he, hW.trans (hb.mono hW.size)⟩
  have Hg : Hid (∀ W, Below w.heap.size w W → Calls Tryz.prog 17 #[.pointer none, .int .i64 x] W fun e w' => e = .returned (.tuple #[.slice none 0 0, .int .i64 13]) ∧ Below w.heap.size w w') := fun W hW => (vget_nil W x).mono fun e w' ⟨he, hb⟩ => ⟨he, hW.trans (hb.mono hW.size)⟩
  have Ho : Hid (∀ W, Below w.heap.size w W → Calls Tryz.prog 9 #[.pointer none] W fun e w' => e = .returned (.tuple #[.pointer none, .int .i64 14]) ∧ Below w.heap.size w w') := fun W hW => (vopen_nil W).mono fun e w' ⟨he, hb⟩ => ⟨he, hW.trans (hb.mono hW.size)⟩
  go_enter Tryz.func6, Tryz.ntmps6
  go_wp2_with (first
    | (go_at_call 11; (with_reducible refine (Hr.out _ B8.out).mono ?_); rintro e w9 ⟨rfl, hb⟩; have B9 := Lib.hid hb; clear hb)
    | (go_at_call 19; (with_reducible refine (Hs.out _ B7.out).mono ?_); rintro e w8 ⟨rfl, hb⟩; have B8 := Lib.hid hb; clear hb)
    | (go_at_call 20; (with_reducible refine (Hn.out _ B6.out).mono ?_); rintro e w7 ⟨rfl, hb⟩; have B7 := Lib.hid hb; clear hb)
    | (go_at_call 16; (with_reducible refine (Hl.out _ B5.out).mono ?_); rintro e w6 ⟨rfl, hb⟩; have B6 := Lib.hid hb; clear hb)
    | (go_at_call 12; (with_reducible refine (Hp.out _ B4.out).mono ?_); rintro e w5 ⟨rfl, hb⟩; have B5 := Lib.hid hb; clear hb)
    | (go_at_call 10; (with_reducible refine (Ha.out _ B3.out).mono ?_); rintro e w4 ⟨rfl, hb⟩; have B4 := Lib.hid hb; clear hb)
    | (go_at_call 22; (with_reducible refine (Hk.out _ B2.out).mono ?_); rintro e w3 ⟨rfl, hb⟩; have B3 := Lib.hid hb; clear hb)
    | (go_at_call 9; (with_reducible refine (Ho.out _ B1.out).mono ?_); rintro e w2 ⟨rfl, hb⟩; have B2 := Lib.hid hb; clear hb)
    | (go_at_call 17; (with_reducible refine (Hg.out _ (Below.refl _ _)).mono ?_); rintro e w1 ⟨rfl, hb⟩; have B1 := Lib.hid hb; clear hb))
  go_ret
  exact ⟨rfl, B9.out⟩
end Go.Proofs.YtjijgoflbjbnfaaGreat.Vt
