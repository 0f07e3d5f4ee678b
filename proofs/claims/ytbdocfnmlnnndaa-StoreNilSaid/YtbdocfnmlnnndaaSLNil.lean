/-
  StoreNil's law. Conditions: none.
-/
import Derived.Test.YtbdocfnmlnnndaaSNam
import Derived.Test.YtbdocfnmlnnndaaSNil2
import Derived.Test.YtbdocfnmlnnndaaSKnown
namespace Go.Proofs.Ytbdocfnmlnnndaa.Sr
open Go.RowKit Fr

set_option maxRecDepth 100000 in
set_option maxHeartbeats 2000000 in
theorem law_nil (w : World) (k : ByteArray) (A : Option Addr) (n c : Nat) (l : List Int) (_ : BAt w (.slice A n c) l) (_ : bok l) (x : Int) :
    Calls Try.prog 6 #[.string k, .slice A n c, .int .i64 x] w fun e w' => e = .returned (.bool true) ∧ Below w.heap.size w w' := by
  have hk : ∀ W, Below w.heap.size w W → Calls Try.prog 25 #[] W fun e w' => e = .returned (.bool true) ∧ Below w.heap.size w w' := fun W hW => (known_any W).mono fun e w' ⟨he, hb⟩ => ⟨he, hW.trans (hb.mono hW.size)⟩
  have h1 : ∀ W, Below w.heap.size w W → Calls Try.prog 19 #[.pointer none, .int .i64 x] W fun e w' => e = .returned (.tuple #[]) ∧ Below w.heap.size w w' := fun W hW => (nil_arm W x).mono fun e w' ⟨he, hb⟩ => ⟨he, hW.trans (hb.mono hW.size)⟩
  have h2 : ∀ W, Below w.heap.size w W → Calls Try.prog 20 #[.pointer none] W fun e w' => e = .returned (.tuple #[]) ∧ Below w.heap.size w w' := fun W hW => (nil_revive W).mono fun e w' ⟨he, hb⟩ => ⟨he, hW.trans (hb.mono hW.size)⟩
  have h3 : ∀ W, Below w.heap.size w W → Calls Try.prog 22 #[.pointer none, .string k] W fun e w' => e = .returned (.tuple #[.slice none 0 0, .bool false]) ∧ Below w.heap.size w w' := fun W hW => (nil_read W k).mono fun e w' ⟨he, hb⟩ => ⟨he, hW.trans (hb.mono hW.size)⟩
  have h4 : ∀ W, Below w.heap.size w W → Calls Try.prog 9 #[.pointer none, .string k, .slice A n c] W fun e w' => e = .returned (.int .i64 14) ∧ Below w.heap.size w w' := fun W hW => (nil_append W k _).mono fun e w' ⟨he, hb⟩ => ⟨he, hW.trans (hb.mono hW.size)⟩
  have h5 : ∀ W, Below w.heap.size w W → Calls Try.prog 11 #[.pointer none, .string k, .slice A n c] W fun e w' => e = .returned (.int .i64 14) ∧ Below w.heap.size w w' := fun W hW => (nil_write W k _).mono fun e w' ⟨he, hb⟩ => ⟨he, hW.trans (hb.mono hW.size)⟩
  have h6 : ∀ W, Below w.heap.size w W → Calls Try.prog 13 #[.pointer none, .string k, .int .i64 x] W fun e w' => e = .returned (.int .i64 14) ∧ Below w.heap.size w w' := fun W hW => (nil_cut W k x).mono fun e w' ⟨he, hb⟩ => ⟨he, hW.trans (hb.mono hW.size)⟩
  have h7 : ∀ W, Below w.heap.size w W → Calls Try.prog 15 #[.pointer none, .string k, .string k] W fun e w' => e = .returned (.int .i64 14) ∧ Below w.heap.size w w' := fun W hW => (nil_rename W k k).mono fun e w' ⟨he, hb⟩ => ⟨he, hW.trans (hb.mono hW.size)⟩
  have h8 : ∀ W, Below w.heap.size w W → Calls Try.prog 17 #[.pointer none, .slice (some ⟨W.heap.size, 0, none⟩) 1 1] (W.alloc (.cells #[.string k] 9)) fun e w' => e = .returned (.int .i64 14) ∧ Below w.heap.size w w' := fun W hW => (nil_drop W k).mono fun e w' ⟨he, hb⟩ => ⟨he, hW.trans (hb.mono hW.size)⟩
  have h9 : ∀ W, Below w.heap.size w W → Calls Try.prog 17 #[.pointer none, .slice none 0 0] W fun e w' => e = .returned (.int .i64 0) ∧ Below w.heap.size w w' := fun W hW => (nil_drop0 W).mono fun e w' ⟨he, hb⟩ => ⟨he, hb ▸ hW⟩
  have h10 : ∀ W, Below w.heap.size w W → Calls Try.prog 29 #[.pointer none] W fun e w' => e = .returned (.slice none 0 0) ∧ Below w.heap.size w w' := fun W hW => (nil_names W).mono fun e w' ⟨he, hb⟩ => ⟨he, hW.trans (hb.mono hW.size)⟩
  have h11 : ∀ W, Below w.heap.size w W → Calls Try.prog 28 #[.pointer none] W fun e w' => e = .returned (.int .i64 0) ∧ Below w.heap.size w w' := fun W hW => (nil_used W).mono fun e w' ⟨he, hb⟩ => ⟨he, hW.trans (hb.mono hW.size)⟩
  have h12 : ∀ W, Below w.heap.size w W → Calls Try.prog 24 #[.pointer none] W fun e w' => e = .returned (.int .i64 0) ∧ Below w.heap.size w w' := fun W hW => (nil_room W).mono fun e w' ⟨he, hb⟩ => ⟨he, hW.trans (hb.mono hW.size)⟩
  have h13 : ∀ W, Below w.heap.size w W → Calls Try.prog 27 #[.pointer none] W fun e w' => e = .returned (.bool true) ∧ Below w.heap.size w w' := fun W hW => (nil_down W).mono fun e w' ⟨he, hb⟩ => ⟨he, hW.trans (hb.mono hW.size)⟩
  have HK := Lib.hid hk
  have H1 := Lib.hid h1
  have H2 := Lib.hid h2
  have H3 := Lib.hid h3
  have H4 := Lib.hid h4
  have H5 := Lib.hid h5
  have H6 := Lib.hid h6
  have H7 := Lib.hid h7
  have H8 := Lib.hid h8
  have H9 := Lib.hid h9
  have H10 := Lib.hid h10
  have H11 := Lib.hid h11
  have H12 := Lib.hid h12
  have H13 := Lib.hid h13
  clear hk h1 h2 h3 h4 h5 h6 h7 h8 h9 h10 h11 h12 h13
  go_enter Try.func6, Try.ntmps6
  go_wp2_with (first
    | (go_at_call 21; (with_reducible refine (nil_copy _).mono ?_); rintro e w' ⟨rfl, rfl⟩)
    | (go_at_call 27; (with_reducible refine (H13.out _ B12.out).mono ?_); rintro e w13 ⟨rfl, hb⟩; have B13 := Lib.hid hb; clear hb)
    | (go_at_call 24; (with_reducible refine (H12.out _ B11.out).mono ?_); rintro e w12 ⟨rfl, hb⟩; have B12 := Lib.hid hb; clear hb)
    | (go_at_call 28; (with_reducible refine (H11.out _ B10.out).mono ?_); rintro e w11 ⟨rfl, hb⟩; have B11 := Lib.hid hb; clear hb)
    | (go_at_call 29; (with_reducible refine (H10.out _ B9.out).mono ?_); rintro e w10 ⟨rfl, hb⟩; have B10 := Lib.hid hb; clear hb)
    | (go_at_call 17; (with_reducible refine (H9.out _ B8.out).mono ?_); rintro e w9 ⟨rfl, hb⟩; have B9 := Lib.hid hb; clear hb)
    | (go_at_call 17; (with_reducible refine (H8.out _ B7.out).mono ?_); rintro e w8 ⟨rfl, hb⟩; have B8 := Lib.hid hb; clear hb)
    | (go_at_call 15; (with_reducible refine (H7.out _ B6.out).mono ?_); rintro e w7 ⟨rfl, hb⟩; have B7 := Lib.hid hb; clear hb)
    | (go_at_call 13; (with_reducible refine (H6.out _ B5.out).mono ?_); rintro e w6 ⟨rfl, hb⟩; have B6 := Lib.hid hb; clear hb)
    | (go_at_call 11; (with_reducible refine (H5.out _ B4.out).mono ?_); rintro e w5 ⟨rfl, hb⟩; have B5 := Lib.hid hb; clear hb)
    | (go_at_call 9; (with_reducible refine (H4.out _ BK.out).mono ?_); rintro e w4 ⟨rfl, hb⟩; have B4 := Lib.hid hb; clear hb)
    | (go_at_call 25; (with_reducible refine (HK.out _ B3.out).mono ?_); rintro e w0 ⟨rfl, hb⟩; have BK := Lib.hid hb; clear hb)
    | (go_at_call 22; (with_reducible refine (H3.out _ B2.out).mono ?_); rintro e w3 ⟨rfl, hb⟩; have B3 := Lib.hid hb; clear hb)
    | (go_at_call 20; (with_reducible refine (H2.out _ B1.out).mono ?_); rintro e w2 ⟨rfl, hb⟩; have B2 := Lib.hid hb; clear hb)
    | (go_at_call 19; (with_reducible refine (H1.out w (Below.refl _ _)).mono ?_); rintro e w1 ⟨rfl, hb⟩; have B1 := Lib.hid hb; clear hb))
  go_ret
  exact ⟨rfl, B13.out⟩
end Go.Proofs.Ytbdocfnmlnnndaa.Sr
