/-
  The contract of attempt at int, int64, string, byte. Conditions: none.
-/
import Derived.Test.YtmicmldhjmadcaaORead
namespace Go.Proofs.Ytmicmldhjmadcaa.Oc
open Go.RowKit

theorem rd_back {w w1 : World} {b : Nat} {er : Int} {l l1 : List Int} {v v1 : Value} (h : RdR w b 0 l v) (h1 : RdR w1 b er l1 v1) (hg : w.grownBy w1 (some b)) : RdTo b w er l (w1.setCell ⟨b, 1, none⟩ v) := by
  have h2 := rd_set2 h1 h.2.1 hg h.2.2.1 h.2.2.2
  exact ⟨v, h2.1, grownBy_trans hg h2.2⟩

/-! ### Int -/
set_option maxRecDepth 100000 in
theorem att_nilInt (w : World) (f : Value) : Calls Try.prog 31 #[.pointer none, f] w fun e w' => e = .returned (.int .i64 0) ∧ w = w' := by
  go_enter Try.func31, Try.ntmps31
  go_wp2
  go_ret
  exact ⟨rfl, rfl⟩
set_option maxRecDepth 100000 in
theorem att_badInt (w : World) (b : Nat) (er : Int) (f : Value) (h : w.cell? ⟨b, 0, none⟩ = some (.int .i64 er)) (he : ¬ er = 0) : Calls Try.prog 31 #[.pointer (some ⟨b, 0, none⟩), f] w fun e w' => e = .returned (.int .i64 0) ∧ w = w' := by
  have HF := Lib.hid (failed_yes w b er he h)
  go_enter Try.func31, Try.ntmps31
  go_wp2_with (go_at_call 45; refine HF.out.mono ?_; rintro e w1 ⟨rfl, rfl⟩)
  go_ret
  exact ⟨rfl, rfl⟩
set_option maxRecDepth 100000 in
theorem att_okInt (w : World) (b : Nat) (l l1 : List Int) (v x : Value) (h : RdR w b 0 l v) (bf : Nat) (fb : Array Value) (eg : ∀ args w, (callFunc bf args).run Try.prog w = .ok (.enter bf args) w)
    (hj : Calls Try.prog bf fb w fun e w' => e = .returned x ∧ RdTo b w 0 l1 w') :
    Calls Try.prog 31 #[.pointer (some ⟨b, 0, none⟩), .func (.func bf) #[] fb] w fun e w' => e = .returned x ∧ RdTo b w 0 l1 w' := by
  obtain ⟨⟨c1, c2⟩, _⟩ := block_cell2 h.1
  have HF := Lib.hid (failed_no w b c1)
  obtain ⟨A, cap, rfl, _⟩ := h.shape
  have HJ := Lib.hid hj
  clear h hj
  go_enter Try.func31, Try.ntmps31
  go_wp2_with (first
    | (go_at_call 45; refine HF2.out.mono ?_; rintro e w2 ⟨rfl, rfl⟩)
    | (go_at_fn bf; refine HJ.out.mono ?_; rintro e w1 ⟨rfl, h1⟩; have H1 := Lib.hid h1; obtain ⟨v1, h2, _⟩ := h1; have HF2 := Lib.hid (failed_no w1 b (block_cell2 h2.1).1.1); clear h2)
    | (go_at_call 45; refine HF.out.mono ?_; rintro e w1 ⟨rfl, rfl⟩))
  go_ret
  exact ⟨rfl, H1.out⟩
set_option maxRecDepth 100000 in
theorem att_errInt (w : World) (b : Nat) (er : Int) (l : List Int) (v : Value) (h : RdR w b 0 l v) (he : ¬ er = 0) (bf : Nat) (fb : Array Value) (eg : ∀ args w, (callFunc bf args).run Try.prog w = .ok (.enter bf args) w)
    (hj : Calls Try.prog bf fb w fun e w' => ∃ x l1, e = .returned x ∧ RdTo b w er l1 w') :
    Calls Try.prog 31 #[.pointer (some ⟨b, 0, none⟩), .func (.func bf) #[] fb] w fun e w' => e = .returned (.int .i64 0) ∧ RdTo b w er l w' := by
  obtain ⟨⟨c1, c2⟩, _⟩ := block_cell2 h.1
  have HF := Lib.hid (failed_no w b c1)
  have HR := Lib.hid h
  obtain ⟨A, cap, rfl, _⟩ := h.shape
  have HJ := Lib.hid hj
  clear h hj
  go_enter Try.func31, Try.ntmps31
  go_wp2_with (first
    | (go_at_call 45; refine HF2.out.mono ?_; rintro e w2 ⟨rfl, rfl⟩)
    | (go_at_fn bf; refine HJ.out.mono ?_; rintro e w1 ⟨x, l1, rfl, v1, h2, hg2⟩; have HB := Lib.hid (rd_back HR.out h2 hg2); have HF2 := Lib.hid (failed_yes w1 b er he (block_cell2 h2.1).1.1); obtain ⟨⟨_, d2⟩, _, f2⟩ := block_cell2 h2.1; clear h2 hg2)
    | (go_at_call 45; refine HF.out.mono ?_; rintro e w1 ⟨rfl, rfl⟩))
  go_ret
  exact ⟨rfl, HB.out⟩

/-! ### I64 -/
set_option maxRecDepth 100000 in
theorem att_nilI64 (w : World) (f : Value) : Calls Try.prog 35 #[.pointer none, f] w fun e w' => e = .returned (.int .i64 0) ∧ w = w' := by
  go_enter Try.func35, Try.ntmps35
  go_wp2
  go_ret
  exact ⟨rfl, rfl⟩
set_option maxRecDepth 100000 in
theorem att_badI64 (w : World) (b : Nat) (er : Int) (f : Value) (h : w.cell? ⟨b, 0, none⟩ = some (.int .i64 er)) (he : ¬ er = 0) : Calls Try.prog 35 #[.pointer (some ⟨b, 0, none⟩), f] w fun e w' => e = .returned (.int .i64 0) ∧ w = w' := by
  have HF := Lib.hid (failed_yes w b er he h)
  go_enter Try.func35, Try.ntmps35
  go_wp2_with (go_at_call 45; refine HF.out.mono ?_; rintro e w1 ⟨rfl, rfl⟩)
  go_ret
  exact ⟨rfl, rfl⟩
set_option maxRecDepth 100000 in
theorem att_okI64 (w : World) (b : Nat) (l l1 : List Int) (v x : Value) (h : RdR w b 0 l v) (bf : Nat) (fb : Array Value) (eg : ∀ args w, (callFunc bf args).run Try.prog w = .ok (.enter bf args) w)
    (hj : Calls Try.prog bf fb w fun e w' => e = .returned x ∧ RdTo b w 0 l1 w') :
    Calls Try.prog 35 #[.pointer (some ⟨b, 0, none⟩), .func (.func bf) #[] fb] w fun e w' => e = .returned x ∧ RdTo b w 0 l1 w' := by
  obtain ⟨⟨c1, c2⟩, _⟩ := block_cell2 h.1
  have HF := Lib.hid (failed_no w b c1)
  obtain ⟨A, cap, rfl, _⟩ := h.shape
  have HJ := Lib.hid hj
  clear h hj
  go_enter Try.func35, Try.ntmps35
  go_wp2_with (first
    | (go_at_call 45; refine HF2.out.mono ?_; rintro e w2 ⟨rfl, rfl⟩)
    | (go_at_fn bf; refine HJ.out.mono ?_; rintro e w1 ⟨rfl, h1⟩; have H1 := Lib.hid h1; obtain ⟨v1, h2, _⟩ := h1; have HF2 := Lib.hid (failed_no w1 b (block_cell2 h2.1).1.1); clear h2)
    | (go_at_call 45; refine HF.out.mono ?_; rintro e w1 ⟨rfl, rfl⟩))
  go_ret
  exact ⟨rfl, H1.out⟩
set_option maxRecDepth 100000 in
theorem att_errI64 (w : World) (b : Nat) (er : Int) (l : List Int) (v : Value) (h : RdR w b 0 l v) (he : ¬ er = 0) (bf : Nat) (fb : Array Value) (eg : ∀ args w, (callFunc bf args).run Try.prog w = .ok (.enter bf args) w)
    (hj : Calls Try.prog bf fb w fun e w' => ∃ x l1, e = .returned x ∧ RdTo b w er l1 w') :
    Calls Try.prog 35 #[.pointer (some ⟨b, 0, none⟩), .func (.func bf) #[] fb] w fun e w' => e = .returned (.int .i64 0) ∧ RdTo b w er l w' := by
  obtain ⟨⟨c1, c2⟩, _⟩ := block_cell2 h.1
  have HF := Lib.hid (failed_no w b c1)
  have HR := Lib.hid h
  obtain ⟨A, cap, rfl, _⟩ := h.shape
  have HJ := Lib.hid hj
  clear h hj
  go_enter Try.func35, Try.ntmps35
  go_wp2_with (first
    | (go_at_call 45; refine HF2.out.mono ?_; rintro e w2 ⟨rfl, rfl⟩)
    | (go_at_fn bf; refine HJ.out.mono ?_; rintro e w1 ⟨x, l1, rfl, v1, h2, hg2⟩; have HB := Lib.hid (rd_back HR.out h2 hg2); have HF2 := Lib.hid (failed_yes w1 b er he (block_cell2 h2.1).1.1); obtain ⟨⟨_, d2⟩, _, f2⟩ := block_cell2 h2.1; clear h2 hg2)
    | (go_at_call 45; refine HF.out.mono ?_; rintro e w1 ⟨rfl, rfl⟩))
  go_ret
  exact ⟨rfl, HB.out⟩

/-! ### Str -/
set_option maxRecDepth 100000 in
theorem att_nilStr (w : World) (f : Value) : Calls Try.prog 40 #[.pointer none, f] w fun e w' => e = .returned (.string ByteArray.empty) ∧ w = w' := by
  go_enter Try.func40, Try.ntmps40
  go_wp2
  go_ret
  exact ⟨rfl, rfl⟩
set_option maxRecDepth 100000 in
theorem att_badStr (w : World) (b : Nat) (er : Int) (f : Value) (h : w.cell? ⟨b, 0, none⟩ = some (.int .i64 er)) (he : ¬ er = 0) : Calls Try.prog 40 #[.pointer (some ⟨b, 0, none⟩), f] w fun e w' => e = .returned (.string ByteArray.empty) ∧ w = w' := by
  have HF := Lib.hid (failed_yes w b er he h)
  go_enter Try.func40, Try.ntmps40
  go_wp2_with (go_at_call 45; refine HF.out.mono ?_; rintro e w1 ⟨rfl, rfl⟩)
  go_ret
  exact ⟨rfl, rfl⟩
set_option maxRecDepth 100000 in
theorem att_okStr (w : World) (b : Nat) (l l1 : List Int) (v x : Value) (h : RdR w b 0 l v) (bf : Nat) (fb : Array Value) (eg : ∀ args w, (callFunc bf args).run Try.prog w = .ok (.enter bf args) w)
    (hj : Calls Try.prog bf fb w fun e w' => e = .returned x ∧ RdTo b w 0 l1 w') :
    Calls Try.prog 40 #[.pointer (some ⟨b, 0, none⟩), .func (.func bf) #[] fb] w fun e w' => e = .returned x ∧ RdTo b w 0 l1 w' := by
  obtain ⟨⟨c1, c2⟩, _⟩ := block_cell2 h.1
  have HF := Lib.hid (failed_no w b c1)
  obtain ⟨A, cap, rfl, _⟩ := h.shape
  have HJ := Lib.hid hj
  clear h hj
  go_enter Try.func40, Try.ntmps40
  go_wp2_with (first
    | (go_at_call 45; refine HF2.out.mono ?_; rintro e w2 ⟨rfl, rfl⟩)
    | (go_at_fn bf; refine HJ.out.mono ?_; rintro e w1 ⟨rfl, h1⟩; have H1 := Lib.hid h1; obtain ⟨v1, h2, _⟩ := h1; have HF2 := Lib.hid (failed_no w1 b (block_cell2 h2.1).1.1); clear h2)
    | (go_at_call 45; refine HF.out.mono ?_; rintro e w1 ⟨rfl, rfl⟩))
  go_ret
  exact ⟨rfl, H1.out⟩
set_option maxRecDepth 100000 in
theorem att_errStr (w : World) (b : Nat) (er : Int) (l : List Int) (v : Value) (h : RdR w b 0 l v) (he : ¬ er = 0) (bf : Nat) (fb : Array Value) (eg : ∀ args w, (callFunc bf args).run Try.prog w = .ok (.enter bf args) w)
    (hj : Calls Try.prog bf fb w fun e w' => ∃ x l1, e = .returned x ∧ RdTo b w er l1 w') :
    Calls Try.prog 40 #[.pointer (some ⟨b, 0, none⟩), .func (.func bf) #[] fb] w fun e w' => e = .returned (.string ByteArray.empty) ∧ RdTo b w er l w' := by
  obtain ⟨⟨c1, c2⟩, _⟩ := block_cell2 h.1
  have HF := Lib.hid (failed_no w b c1)
  have HR := Lib.hid h
  obtain ⟨A, cap, rfl, _⟩ := h.shape
  have HJ := Lib.hid hj
  clear h hj
  go_enter Try.func40, Try.ntmps40
  go_wp2_with (first
    | (go_at_call 45; refine HF2.out.mono ?_; rintro e w2 ⟨rfl, rfl⟩)
    | (go_at_fn bf; refine HJ.out.mono ?_; rintro e w1 ⟨x, l1, rfl, v1, h2, hg2⟩; have HB := Lib.hid (rd_back HR.out h2 hg2); have HF2 := Lib.hid (failed_yes w1 b er he (block_cell2 h2.1).1.1); obtain ⟨⟨_, d2⟩, _, f2⟩ := block_cell2 h2.1; clear h2 hg2)
    | (go_at_call 45; refine HF.out.mono ?_; rintro e w1 ⟨rfl, rfl⟩))
  go_ret
  exact ⟨rfl, HB.out⟩

/-! ### Byte -/
set_option maxRecDepth 100000 in
theorem att_nilByte (w : World) (f : Value) : Calls Try.prog 43 #[.pointer none, f] w fun e w' => e = .returned (.int .u8 0) ∧ w = w' := by
  go_enter Try.func43, Try.ntmps43
  go_wp2
  go_ret
  exact ⟨rfl, rfl⟩
set_option maxRecDepth 100000 in
theorem att_badByte (w : World) (b : Nat) (er : Int) (f : Value) (h : w.cell? ⟨b, 0, none⟩ = some (.int .i64 er)) (he : ¬ er = 0) : Calls Try.prog 43 #[.pointer (some ⟨b, 0, none⟩), f] w fun e w' => e = .returned (.int .u8 0) ∧ w = w' := by
  have HF := Lib.hid (failed_yes w b er he h)
  go_enter Try.func43, Try.ntmps43
  go_wp2_with (go_at_call 45; refine HF.out.mono ?_; rintro e w1 ⟨rfl, rfl⟩)
  go_ret
  exact ⟨rfl, rfl⟩
set_option maxRecDepth 100000 in
theorem att_okByte (w : World) (b : Nat) (l l1 : List Int) (v x : Value) (h : RdR w b 0 l v) (bf : Nat) (fb : Array Value) (eg : ∀ args w, (callFunc bf args).run Try.prog w = .ok (.enter bf args) w)
    (hj : Calls Try.prog bf fb w fun e w' => e = .returned x ∧ RdTo b w 0 l1 w') :
    Calls Try.prog 43 #[.pointer (some ⟨b, 0, none⟩), .func (.func bf) #[] fb] w fun e w' => e = .returned x ∧ RdTo b w 0 l1 w' := by
  obtain ⟨⟨c1, c2⟩, _⟩ := block_cell2 h.1
  have HF := Lib.hid (failed_no w b c1)
  obtain ⟨A, cap, rfl, _⟩ := h.shape
  have HJ := Lib.hid hj
  clear h hj
  go_enter Try.func43, Try.ntmps43
  go_wp2_with (first
    | (go_at_call 45; refine HF2.out.mono ?_; rintro e w2 ⟨rfl, rfl⟩)
    | (go_at_fn bf; refine HJ.out.mono ?_; rintro e w1 ⟨rfl, h1⟩; have H1 := Lib.hid h1; obtain ⟨v1, h2, _⟩ := h1; have HF2 := Lib.hid (failed_no w1 b (block_cell2 h2.1).1.1); clear h2)
    | (go_at_call 45; refine HF.out.mono ?_; rintro e w1 ⟨rfl, rfl⟩))
  go_ret
  exact ⟨rfl, H1.out⟩
set_option maxRecDepth 100000 in
theorem att_errByte (w : World) (b : Nat) (er : Int) (l : List Int) (v : Value) (h : RdR w b 0 l v) (he : ¬ er = 0) (bf : Nat) (fb : Array Value) (eg : ∀ args w, (callFunc bf args).run Try.prog w = .ok (.enter bf args) w)
    (hj : Calls Try.prog bf fb w fun e w' => ∃ x l1, e = .returned x ∧ RdTo b w er l1 w') :
    Calls Try.prog 43 #[.pointer (some ⟨b, 0, none⟩), .func (.func bf) #[] fb] w fun e w' => e = .returned (.int .u8 0) ∧ RdTo b w er l w' := by
  obtain ⟨⟨c1, c2⟩, _⟩ := block_cell2 h.1
  have HF := Lib.hid (failed_no w b c1)
  have HR := Lib.hid h
  obtain ⟨A, cap, rfl, _⟩ := h.shape
  have HJ := Lib.hid hj
  clear h hj
  go_enter Try.func43, Try.ntmps43
  go_wp2_with (first
    | (go_at_call 45; refine HF2.out.mono ?_; rintro e w2 ⟨rfl, rfl⟩)
    | (go_at_fn bf; refine HJ.out.mono ?_; rintro e w1 ⟨x, l1, rfl, v1, h2, hg2⟩; have HB := Lib.hid (rd_back HR.out h2 hg2); have HF2 := Lib.hid (failed_yes w1 b er he (block_cell2 h2.1).1.1); obtain ⟨⟨_, d2⟩, _, f2⟩ := block_cell2 h2.1; clear h2 hg2)
    | (go_at_call 45; refine HF.out.mono ?_; rintro e w1 ⟨rfl, rfl⟩))
  go_ret
  exact ⟨rfl, HB.out⟩
end Go.Proofs.Ytmicmldhjmadcaa.Oc
