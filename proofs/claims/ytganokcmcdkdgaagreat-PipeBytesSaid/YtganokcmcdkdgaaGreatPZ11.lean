/-
  The contract of attempt at int, int64, string, byte. Conditions: none.
-/
import Derived.Test.YtganokcmcdkdgaaGreatORead
namespace Go.Proofs.YtganokcmcdkdgaaGreat.Oc
open Go.RowKit

theorem rd_back {w w1 : World} {b : Nat} {er : Int} {l l1 : List Int} {v v1 : Value} (h : RdR w b 0 l v) (h1 : RdR w1 b er l1 v1) (hg : w.grownBy w1 (some b)) : RdTo b w er l (w1.setCell ⟨b, 1, none⟩ v) := by
  have h2 := rd_set2 h1 h.2.1 hg h.2.2.1 h.2.2.2
  exact ⟨v, h2.1, grownBy_trans hg h2.2⟩

/-! ### Int -/
set_option maxRecDepth 100000 in
theorem att_nilInt (w : World) (f : Value) : Calls Tryz.prog 82 #[.pointer none, f] w fun e w' => e = .returned (.int .i64 0) ∧ w = w' := by
  go_enter Tryz.func82, Tryz.ntmps82
  go_wp2
  go_ret
  exact ⟨rfl, rfl⟩
set_option maxRecDepth 100000 in
theorem att_badInt (w : World) (b : Nat) (er : Int) (f : Value) (h : w.cell? ⟨b, 0, none⟩ = some (.int .i64 er)) (he : ¬ er = 0) : Calls Tryz.prog 82 #[.pointer (some ⟨b, 0, none⟩), f] w fun e w' => e = .returned (.int .i64 0) ∧ w = w' := by
  have HF := Lib.hid (failed_yes w b er he h)
  go_enter Tryz.func82, Tryz.ntmps82
  go_wp2_with (go_at_call 55; refine HF.out.mono ?_; rintro e w1 ⟨rfl, rfl⟩)
  go_ret
  exact ⟨rfl, rfl⟩
set_option maxRecDepth 100000 in
theorem att_okInt (w : World) (b : Nat) (l l1 : List Int) (v x : Value) (h : RdR w b 0 l v) (bf : Nat) (fb : Array Value) (eg : ∀ args w, (callFunc bf args).run Tryz.prog w = .ok (.enter bf args) w)
    (hj : Calls Tryz.prog bf fb w fun e w' => e = .returned x ∧ RdTo b w 0 l1 w') :
    Calls Tryz.prog 82 #[.pointer (some ⟨b, 0, none⟩), .func (.func bf) #[] fb] w fun e w' => e = .returned x ∧ RdTo b w 0 l1 w' := by
  obtain ⟨⟨c1, c2⟩, _⟩ := block_cell2 h.1
  have HF := Lib.hid (failed_no w b c1)
  obtain ⟨A, cap, rfl, _⟩ := h.shape
  have HJ := Lib.hid hj
  clear h hj
  go_enter Tryz.func82, Tryz.ntmps82
  go_wp2_with (first
    | (go_at_call 55; refine HF2.out.mono ?_; rintro e w2 ⟨rfl, rfl⟩)
    | (go_at_fn bf; refine HJ.out.mono ?_; rintro e w1 ⟨rfl, h1⟩; have H1 := Lib.hid h1; obtain ⟨v1, h2, _⟩ := h1; have HF2 := Lib.hid (failed_no w1 b (block_cell2 h2.1).1.1); clear h2)
    | (go_at_call 55; refine HF.out.mono ?_; rintro e w1 ⟨rfl, rfl⟩))
  go_ret
  exact ⟨rfl, H1.out⟩
set_option maxRecDepth 100000 in
theorem att_errInt (w : World) (b : Nat) (er : Int) (l : List Int) (v : Value) (h : RdR w b 0 l v) (he : ¬ er = 0) (bf : Nat) (fb : Array Value) (eg : ∀ args w, (callFunc bf args).run Tryz.prog w = .ok (.enter bf args) w)
    (hj : Calls Tryz.prog bf fb w fun e w' => ∃ x l1, e = .returned x ∧ RdTo b w er l1 w') :
    Calls Tryz.prog 82 #[.pointer (some ⟨b, 0, none⟩), .func (.func bf) #[] fb] w fun e w' => e = .returned (.int .i64 0) ∧ RdTo b w er l w' := by
  obtain ⟨⟨c1, c2⟩, _⟩ := block_cell2 h.1
  have HF := Lib.hid (failed_no w b c1)
  have HR := Lib.hid h
  obtain ⟨A, cap, rfl, _⟩ := h.shape
  have HJ := Lib.hid hj
  clear h hj
  go_enter Tryz.func82, Tryz.ntmps82
  go_wp2_with (first
    | (go_at_call 55; refine HF2.out.mono ?_; rintro e w2 ⟨rfl, rfl⟩)
    | (go_at_fn bf; refine HJ.out.mono ?_; rintro e w1 ⟨x, l1, rfl, v1, h2, hg2⟩; have HB := Lib.hid (rd_back HR.out h2 hg2); have HF2 := Lib.hid (failed_yes w1 b er he (block_cell2 h2.1).1.1); obtain ⟨⟨_, d2⟩, _, f2⟩ := block_cell2 h2.1; clear h2 hg2)
    | (go_at_call 55; refine HF.out.mono ?_; rintro e w1 ⟨rfl, rfl⟩))
  go_ret
  exact ⟨rfl, HB.out⟩

/-! ### I64 -/
/-! ### Str -/
set_option maxRecDepth 100000 in
theorem att_nilStr (w : World) (f : Value) : Calls Tryz.prog 85 #[.pointer none, f] w fun e w' => e = .returned (.string ByteArray.empty) ∧ w = w' := by
  go_enter Tryz.func85, Tryz.ntmps85
  go_wp2
  go_ret
  exact ⟨rfl, rfl⟩
set_option maxRecDepth 100000 in
theorem att_badStr (w : World) (b : Nat) (er : Int) (f : Value) (h : w.cell? ⟨b, 0, none⟩ = some (.int .i64 er)) (he : ¬ er = 0) : Calls Tryz.prog 85 #[.pointer (some ⟨b, 0, none⟩), f] w fun e w' => e = .returned (.string ByteArray.empty) ∧ w = w' := by
  have HF := Lib.hid (failed_yes w b er he h)
  go_enter Tryz.func85, Tryz.ntmps85
  go_wp2_with (go_at_call 55; refine HF.out.mono ?_; rintro e w1 ⟨rfl, rfl⟩)
  go_ret
  exact ⟨rfl, rfl⟩
set_option maxRecDepth 100000 in
theorem att_okStr (w : World) (b : Nat) (l l1 : List Int) (v x : Value) (h : RdR w b 0 l v) (bf : Nat) (fb : Array Value) (eg : ∀ args w, (callFunc bf args).run Tryz.prog w = .ok (.enter bf args) w)
    (hj : Calls Tryz.prog bf fb w fun e w' => e = .returned x ∧ RdTo b w 0 l1 w') :
    Calls Tryz.prog 85 #[.pointer (some ⟨b, 0, none⟩), .func (.func bf) #[] fb] w fun e w' => e = .returned x ∧ RdTo b w 0 l1 w' := by
  obtain ⟨⟨c1, c2⟩, _⟩ := block_cell2 h.1
  have HF := Lib.hid (failed_no w b c1)
  obtain ⟨A, cap, rfl, _⟩ := h.shape
  have HJ := Lib.hid hj
  clear h hj
  go_enter Tryz.func85, Tryz.ntmps85
  go_wp2_with (first
    | (go_at_call 55; refine HF2.out.mono ?_; rintro e w2 ⟨rfl, rfl⟩)
    | (go_at_fn bf; refine HJ.out.mono ?_; rintro e w1 ⟨rfl, h1⟩; have H1 := Lib.hid h1; obtain ⟨v1, h2, _⟩ := h1; have HF2 := Lib.hid (failed_no w1 b (block_cell2 h2.1).1.1); clear h2)
    | (go_at_call 55; refine HF.out.mono ?_; rintro e w1 ⟨rfl, rfl⟩))
  go_ret
  exact ⟨rfl, H1.out⟩
set_option maxRecDepth 100000 in
theorem att_errStr (w : World) (b : Nat) (er : Int) (l : List Int) (v : Value) (h : RdR w b 0 l v) (he : ¬ er = 0) (bf : Nat) (fb : Array Value) (eg : ∀ args w, (callFunc bf args).run Tryz.prog w = .ok (.enter bf args) w)
    (hj : Calls Tryz.prog bf fb w fun e w' => ∃ x l1, e = .returned x ∧ RdTo b w er l1 w') :
    Calls Tryz.prog 85 #[.pointer (some ⟨b, 0, none⟩), .func (.func bf) #[] fb] w fun e w' => e = .returned (.string ByteArray.empty) ∧ RdTo b w er l w' := by
  obtain ⟨⟨c1, c2⟩, _⟩ := block_cell2 h.1
  have HF := Lib.hid (failed_no w b c1)
  have HR := Lib.hid h
  obtain ⟨A, cap, rfl, _⟩ := h.shape
  have HJ := Lib.hid hj
  clear h hj
  go_enter Tryz.func85, Tryz.ntmps85
  go_wp2_with (first
    | (go_at_call 55; refine HF2.out.mono ?_; rintro e w2 ⟨rfl, rfl⟩)
    | (go_at_fn bf; refine HJ.out.mono ?_; rintro e w1 ⟨x, l1, rfl, v1, h2, hg2⟩; have HB := Lib.hid (rd_back HR.out h2 hg2); have HF2 := Lib.hid (failed_yes w1 b er he (block_cell2 h2.1).1.1); obtain ⟨⟨_, d2⟩, _, f2⟩ := block_cell2 h2.1; clear h2 hg2)
    | (go_at_call 55; refine HF.out.mono ?_; rintro e w1 ⟨rfl, rfl⟩))
  go_ret
  exact ⟨rfl, HB.out⟩

/-! ### Byte -/
set_option maxRecDepth 100000 in
theorem att_nilByte (w : World) (f : Value) : Calls Tryz.prog 79 #[.pointer none, f] w fun e w' => e = .returned (.int .u8 0) ∧ w = w' := by
  go_enter Tryz.func79, Tryz.ntmps79
  go_wp2
  go_ret
  exact ⟨rfl, rfl⟩
set_option maxRecDepth 100000 in
theorem att_badByte (w : World) (b : Nat) (er : Int) (f : Value) (h : w.cell? ⟨b, 0, none⟩ = some (.int .i64 er)) (he : ¬ er = 0) : Calls Tryz.prog 79 #[.pointer (some ⟨b, 0, none⟩), f] w fun e w' => e = .returned (.int .u8 0) ∧ w = w' := by
  have HF := Lib.hid (failed_yes w b er he h)
  go_enter Tryz.func79, Tryz.ntmps79
  go_wp2_with (go_at_call 55; refine HF.out.mono ?_; rintro e w1 ⟨rfl, rfl⟩)
  go_ret
  exact ⟨rfl, rfl⟩
set_option maxRecDepth 100000 in
theorem att_okByte (w : World) (b : Nat) (l l1 : List Int) (v x : Value) (h : RdR w b 0 l v) (bf : Nat) (fb : Array Value) (eg : ∀ args w, (callFunc bf args).run Tryz.prog w = .ok (.enter bf args) w)
    (hj : Calls Tryz.prog bf fb w fun e w' => e = .returned x ∧ RdTo b w 0 l1 w') :
    Calls Tryz.prog 79 #[.pointer (some ⟨b, 0, none⟩), .func (.func bf) #[] fb] w fun e w' => e = .returned x ∧ RdTo b w 0 l1 w' := by
  obtain ⟨⟨c1, c2⟩, _⟩ := block_cell2 h.1
  have HF := Lib.hid (failed_no w b c1)
  obtain ⟨A, cap, rfl, _⟩ := h.shape
  have HJ := Lib.hid hj
  clear h hj
  go_enter Tryz.func79, Tryz.ntmps79
  go_wp2_with (first
    | (go_at_call 55; refine HF2.out.mono ?_; rintro e w2 ⟨rfl, rfl⟩)
    | (go_at_fn bf; refine HJ.out.mono ?_; rintro e w1 ⟨rfl, h1⟩; have H1 := Lib.hid h1; obtain ⟨v1, h2, _⟩ := h1; have HF2 := Lib.hid (failed_no w1 b (block_cell2 h2.1).1.1); clear h2)
    | (go_at_call 55; refine HF.out.mono ?_; rintro e w1 ⟨rfl, rfl⟩))
  go_ret
  exact ⟨rfl, H1.out⟩
set_option maxRecDepth 100000 in
theorem att_errByte (w : World) (b : Nat) (er : Int) (l : List Int) (v : Value) (h : RdR w b 0 l v) (he : ¬ er = 0) (bf : Nat) (fb : Array Value) (eg : ∀ args w, (callFunc bf args).run Tryz.prog w = .ok (.enter bf args) w)
    (hj : Calls Tryz.prog bf fb w fun e w' => ∃ x l1, e = .returned x ∧ RdTo b w er l1 w') :
    Calls Tryz.prog 79 #[.pointer (some ⟨b, 0, none⟩), .func (.func bf) #[] fb] w fun e w' => e = .returned (.int .u8 0) ∧ RdTo b w er l w' := by
  obtain ⟨⟨c1, c2⟩, _⟩ := block_cell2 h.1
  have HF := Lib.hid (failed_no w b c1)
  have HR := Lib.hid h
  obtain ⟨A, cap, rfl, _⟩ := h.shape
  have HJ := Lib.hid hj
  clear h hj
  go_enter Tryz.func79, Tryz.ntmps79
  go_wp2_with (first
    | (go_at_call 55; refine HF2.out.mono ?_; rintro e w2 ⟨rfl, rfl⟩)
    | (go_at_fn bf; refine HJ.out.mono ?_; rintro e w1 ⟨x, l1, rfl, v1, h2, hg2⟩; have HB := Lib.hid (rd_back HR.out h2 hg2); have HF2 := Lib.hid (failed_yes w1 b er he (block_cell2 h2.1).1.1); obtain ⟨⟨_, d2⟩, _, f2⟩ := block_cell2 h2.1; clear h2 hg2)
    | (go_at_call 55; refine HF.out.mono ?_; rintro e w1 ⟨rfl, rfl⟩))
  go_ret
  exact ⟨rfl, HB.out⟩
end Go.Proofs.YtganokcmcdkdgaaGreat.Oc

namespace Go.Proofs.YtganokcmcdkdgaaGreat.Oc
open Go.RowKit

def boxO (b : Nat) : Obj := .cells #[.pointer (some ⟨b, 0, none⟩)] 54 (0, 0)
theorem rd_box {w : World} {b : Nat} {er : Int} {l : List Int} {v : Value} (h : RdR w b er l v) (o : Obj) : RdR (w.alloc o) b er l v := h.below ((Below.refl _ _).alloc (Nat.le_refl _) _)
theorem BAt.len {w : World} {v : Value} {l : List Int} (h : BAt w v l) : ∃ A cap, v = .slice A l.length cap := by
  obtain ⟨A, cap, h1, _⟩ := h
  exact ⟨A, cap, h1⟩
set_option maxRecDepth 100000 in
theorem byte1_some (w : World) (b B : Nat) (x : Int) (r : List Int) (v : Value) (h : RdR w b 0 (x :: r) v) (hB : w.heap[B]? = some (boxO b)) :
    Calls Tryz.prog 80 #[.pointer (some ⟨B, 0, none⟩)] w fun e w' => e = .returned (.int .u8 x) ∧ RdTo b w 0 r w' := by
  obtain ⟨c1, _⟩ := block_cell hB
  have HC := Lib.hid (cut_ok w b 0 (x :: r) v 1 h (by simp))
  clear h hB
  go_enter Tryz.func80, Tryz.ntmps80
  go_wp2_with (go_at_call 81; refine HC.out.mono ?_; rintro e w1 ⟨u, rfl, ⟨A, cap, rfl, _, hcell⟩, hr⟩; have HR := Lib.hid hr; obtain ⟨g, o, rfl, _, hc⟩ := hcell (by simp); have d1 : w1.cell? ⟨g, o, none⟩ = some (.int .u8 x) := (by simpa using hc 0 (by simp)); clear hr hc hcell)
  go_ret
  exact ⟨rfl, by simpa using HR.out⟩
set_option maxRecDepth 100000 in
theorem byte1_end (w : World) (b B : Nat) (v : Value) (h : RdR w b 0 [] v) (hB : w.heap[B]? = some (boxO b)) :
    Calls Tryz.prog 80 #[.pointer (some ⟨B, 0, none⟩)] w fun e w' => e = .returned (.int .u8 0) ∧ RdTo b w 12 [] w' := by
  obtain ⟨c1, _⟩ := block_cell hB
  have HC := Lib.hid (cut_end w b [] v 1 h (by simp))
  clear h hB
  go_enter Tryz.func80, Tryz.ntmps80
  go_wp2_with (go_at_call 81; refine HC.out.mono ?_; rintro e w1 ⟨rfl, hr⟩; have HR := Lib.hid hr; clear hr)
  go_ret
  exact ⟨rfl, HR.out⟩
theorem mkfn : ∀ (fn : Fn) (first cap : Array Value) (w : World), (Instr.makeFunc fn first cap).run Tryz.prog w = .ok (.func fn first cap) w := fun _ _ _ _ => rfl

set_option maxRecDepth 100000 in
theorem rbyte_nil (w : World) : Calls Tryz.prog 51 #[.pointer none] w fun e w' => e = .returned (.int .u8 0) ∧ Below w.heap.size w w' := by
  have hmf := mkfn
  have HB : Hid (Below w.heap.size w (w.alloc (.cells #[.pointer none] 54))) := (Below.refl _ _).alloc (Nat.le_refl _) _
  go_enter Tryz.func51, Tryz.ntmps51
  go_wp2_with (go_at_call 79; refine (att_nilByte _ _).mono ?_; rintro e w1 ⟨rfl, rfl⟩)
  go_ret
  exact ⟨rfl, HB.out⟩
set_option maxRecDepth 100000 in
theorem rbyte_bad (w : World) (b : Nat) (er : Int) (l : List Int) (v : Value) (h : RdR w b er l v) (he : ¬ er = 0) : Calls Tryz.prog 51 #[.pointer (some ⟨b, 0, none⟩)] w fun e w' => e = .returned (.int .u8 0) ∧ RdTo b w er l w' := by
  have hmf := mkfn
  have HR : Hid (RdTo b w er l (w.alloc (boxO b))) := RdTo.same h ((Below.refl _ _).alloc (Nat.le_refl _) _)
  have HC : Hid ((w.alloc (boxO b)).cell? ⟨b, 0, none⟩ = some (.int .i64 er)) := (block_cell2 (rd_box h (boxO b)).1).1.1
  clear h
  unfold boxO at *
  go_enter Tryz.func51, Tryz.ntmps51
  go_wp2_with (go_at_call 79; refine (att_badByte _ b er _ HC.out he).mono ?_; rintro e w1 ⟨rfl, rfl⟩)
  go_ret
  exact ⟨rfl, HR.out⟩
set_option maxRecDepth 100000 in
theorem rbyte_some (w : World) (b : Nat) (x : Int) (r : List Int) (v : Value) (h : RdR w b 0 (x :: r) v) : Calls Tryz.prog 51 #[.pointer (some ⟨b, 0, none⟩)] w fun e w' => e = .returned (.int .u8 x) ∧ RdTo b w 0 r w' := by
  have hmf := mkfn
  have HA := Lib.hid (att_okByte (w.alloc (boxO b)) b (x :: r) r v (.int .u8 x) (rd_box h _) 80 #[.pointer (some ⟨w.heap.size, 0, none⟩)] (enters_of Tryz.func80 (by kernel_rfl) rfl) (byte1_some _ b w.heap.size x r v (rd_box h _) (block_new _ _)))
  have HG := Lib.hid (grownBy_alloc w (boxO b) (some b))
  clear h
  unfold boxO at *
  go_enter Tryz.func51, Tryz.ntmps51
  go_wp2_with (go_at_call 79; refine HA.out.mono ?_; rintro e w1 ⟨rfl, h1⟩; have H1 := Lib.hid (RdTo.trans HG.out h1); clear h1)
  go_ret
  exact ⟨rfl, H1.out⟩
set_option maxRecDepth 100000 in
theorem rbyte_end (w : World) (b : Nat) (v : Value) (h : RdR w b 0 [] v) : Calls Tryz.prog 51 #[.pointer (some ⟨b, 0, none⟩)] w fun e w' => e = .returned (.int .u8 0) ∧ RdTo b w 12 [] w' := by
  have hmf := mkfn
  have HA := Lib.hid (att_errByte (w.alloc (boxO b)) b 12 [] v (rd_box h _) (by decide) 80 #[.pointer (some ⟨w.heap.size, 0, none⟩)] (enters_of Tryz.func80 (by kernel_rfl) rfl) ((byte1_end _ b w.heap.size v (rd_box h _) (block_new _ _)).mono fun e w' h1 => ⟨_, _, h1.1, h1.2⟩))
  have HG := Lib.hid (grownBy_alloc w (boxO b) (some b))
  clear h
  unfold boxO at *
  go_enter Tryz.func51, Tryz.ntmps51
  go_wp2_with (go_at_call 79; refine HA.out.mono ?_; rintro e w1 ⟨rfl, h1⟩; have H1 := Lib.hid (RdTo.trans HG.out h1); clear h1)
  go_ret
  exact ⟨rfl, H1.out⟩
end Go.Proofs.YtganokcmcdkdgaaGreat.Oc
