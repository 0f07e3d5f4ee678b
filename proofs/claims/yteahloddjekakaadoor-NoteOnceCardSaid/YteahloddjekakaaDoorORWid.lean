/-
  The contract of the reader's Wide. Conditions: none.
-/
import Derived.Test.YteahloddjekakaaDoorNM14
namespace Go.Proofs.YteahloddjekakaaDoor.Oc
open Go.RowKit

def wideO (h l : Int) : Obj := .cells #[.int .i64 h, .int .u64 l] 31 (0, 0)
def wideV (h l : Int) : Value := .agg #[.int .i64 h, .int .u64 l]
theorem two_wides (w : World) : ((w.alloc (wideO 0 0)).alloc (wideO 0 0)).heap[w.heap.size]? = some (wideO 0 0) ∧ ((w.alloc (wideO 0 0)).alloc (wideO 0 0)).heap[w.heap.size + 1]? = some (wideO 0 0) ∧ Below w.heap.size w ((w.alloc (wideO 0 0)).alloc (wideO 0 0)) :=
  ⟨block_old (block_new _ _) _, by have := block_new (w.alloc (wideO 0 0)) (wideO 0 0); simpa using this, ((Below.refl _ _).alloc (Nat.le_refl _) _).alloc (by simp) _⟩
set_option maxRecDepth 100000 in
theorem att_nilWide (w : World) (f : Value) : Calls Tryd.prog 103 #[.pointer none, f] w fun e w' => e = .returned (wideV 0 0) ∧ Below w.heap.size w w' := by
  have HB := Lib.hid (two_wides w).2.2
  unfold wideO wideV at *
  go_enter Tryd.func103, Tryd.ntmps103
  go_wp2
  exact bodyPost_ret (v := .agg #[.int .i64 0, .int .u64 0]) (by simp [results, Tryd.results103, go_sem]) rfl ⟨rfl, HB.out⟩
set_option maxRecDepth 100000 in
theorem att_badWide (w : World) (b : Nat) (er : Int) (l : List Int) (v f : Value) (h : RdR w b er l v) (he : ¬ er = 0) : Calls Tryd.prog 103 #[.pointer (some ⟨b, 0, none⟩), f] w fun e w' => e = .returned (wideV 0 0) ∧ RdTo b w er l w' := by
  have hb2 := (two_wides w).2.2
  have HF := Lib.hid (failed_yes _ b er he (block_cell2 (h.below hb2).1).1.1)
  have HR := Lib.hid (RdTo.same h hb2)
  clear h hb2
  unfold wideO wideV at *
  go_enter Tryd.func103, Tryd.ntmps103
  go_wp2_with (go_at_call 79; refine HF.out.mono ?_; rintro e w1 ⟨rfl, rfl⟩)
  exact bodyPost_ret (v := .agg #[.int .i64 0, .int .u64 0]) (by simp [results, Tryd.results103, go_sem]) rfl ⟨rfl, HR.out⟩
theorem wide_block {w : World} {b : Nat} {x y : Int} (h : w.heap[b]? = some (wideO x y)) : (w.cell? ⟨b, 0, none⟩ = some (.int .i64 x) ∧ w.cell? ⟨b, 1, none⟩ = some (.int .u64 y)) ∧ w.frozen? ⟨b, 0, none⟩ = false ∧ w.frozen? ⟨b, 1, none⟩ = false := block_cell2 h
theorem grown_set {w w2 : World} {row : Option Nat} (h : w.grownBy w2 row) {p : Addr} (hp : w.heap.size ≤ p.block) (u : Value) : w.grownBy (w2.setCell p u) row :=
  ⟨h.os, h.tape, h.output, by simpa [World.setCell] using h.size, fun k hk hn => (Below.heap_setCell _ _ _ _ (by omega)).trans (h.block k hk hn)⟩
theorem grown_alloc {w w2 : World} {row : Option Nat} (h : w.grownBy w2 row) (o : Obj) : w.grownBy (w2.alloc o) row :=
  ⟨h.os, h.tape, h.output, by have := h.size; simp; omega, fun k hk hn => (Below.heap_alloc _ _ _ (Nat.lt_of_lt_of_le hk h.size)).trans (h.block k hk hn)⟩
set_option maxRecDepth 100000 in
theorem att_okWide (w : World) (b : Nat) (l l1 : List Int) (v : Value) (hi lo : Int) (h : RdR w b 0 l v) (bf : Nat) (fb : Array Value) (eg : ∀ args w, (callFunc bf args).run Tryd.prog w = .ok (.enter bf args) w)
    (hj : Calls Tryd.prog bf fb ((w.alloc (wideO 0 0)).alloc (wideO 0 0)) fun e w' => e = .returned (wideV hi lo) ∧ RdTo b ((w.alloc (wideO 0 0)).alloc (wideO 0 0)) 0 l1 w') :
    Calls Tryd.prog 103 #[.pointer (some ⟨b, 0, none⟩), .func (.func bf) #[] fb] w fun e w' => e = .returned (wideV hi lo) ∧ RdTo b w 0 l1 w' := by
  obtain ⟨hb0, hb1, hb2⟩ := two_wides w
  have hlt := h.lt
  have HF := Lib.hid (failed_no _ b (block_cell2 (h.below hb2).1).1.1)
  obtain ⟨⟨c1, c2⟩, _⟩ := block_cell2 (h.below hb2).1
  obtain ⟨A, cap, rfl, _⟩ := h.shape
  have HJ := Lib.hid hj
  have HB0 := Lib.hid hb0
  have HB1 := Lib.hid hb1
  have HB2 := Lib.hid hb2
  clear h hj hb0 hb1 hb2
  unfold wideO wideV at *
  go_enter Tryd.func103, Tryd.ntmps103
  go_wp2_with (first
    | (go_at_call 79; refine HF2.out.mono ?_; rintro e w2 ⟨rfl, rfl⟩)
    | (go_at_fn bf; refine HJ.out.mono ?_; rintro e w1 ⟨rfl, v1, h2, hg2⟩
       have hn0 := block_grown HB0.out hg2 (by omega)
       have hz := hg2.size
       have z1 : w.heap.size < w1.heap.size := by simp at hz; omega
       obtain ⟨⟨d1, d2⟩, f1, f2⟩ := wide_block hn0
       have hb3 : Below w1.heap.size w1 (w1.alloc (.cells #[.int .i64 hi, .int .u64 lo] 31)) := (Below.refl _ _).alloc (Nat.le_refl _) _
       have HF2 := Lib.hid (failed_no _ b (block_cell2 (h2.below hb3).1).1.1)
       have HV := Lib.hid h2
       have HG := Lib.hid hg2
       have HN0 := Lib.hid hn0
       clear h2 hg2 hz hn0 hb3)
    | (go_at_call 79; refine HF.out.mono ?_; rintro e w1 ⟨rfl, rfl⟩))
  have hend : ((((w1.setCell ⟨w.heap.size, 0, none⟩ (.int .i64 hi)).setCell ⟨w.heap.size, 1, none⟩ (.int .u64 lo)).alloc (.cells #[.int .i64 hi, .int .u64 lo] 31))).heap[w.heap.size]? = some (wideO hi lo) := block_old (block_set2 (block_set1 HN0.out _) _) _
  obtain ⟨⟨e1, e2⟩, _⟩ := wide_block hend
  refine bodyPost_ret (v := .agg #[.int .i64 hi, .int .u64 lo]) (by simp [results, Tryd.results103, go_sem, e1, e2]) rfl ⟨rfl, v1, ?_, ?_⟩
  · refine HV.out.upto (fun k hk => ?_)
    rw [Below.heap_alloc _ _ k (by simp [World.setCell]; omega), Below.heap_setCell _ _ _ _ (by show k ≠ w.heap.size; omega), Below.heap_setCell _ _ _ _ (by show k ≠ w.heap.size; omega)]
  · exact grown_alloc (grown_set (grown_set (grownBy_trans (grownBy_of_below _ HB2.out) HG.out) (Nat.le_refl _) _) (Nat.le_refl _) _) _
set_option maxRecDepth 100000 in
theorem att_errWide (w : World) (b : Nat) (l : List Int) (v : Value) (h : RdR w b 0 l v) (bf : Nat) (fb : Array Value) (eg : ∀ args w, (callFunc bf args).run Tryd.prog w = .ok (.enter bf args) w)
    (hj : Calls Tryd.prog bf fb ((w.alloc (wideO 0 0)).alloc (wideO 0 0)) fun e w' => ∃ er hi lo l1, ¬ er = 0 ∧ e = .returned (wideV hi lo) ∧ RdTo b ((w.alloc (wideO 0 0)).alloc (wideO 0 0)) er l1 w') :
    Calls Tryd.prog 103 #[.pointer (some ⟨b, 0, none⟩), .func (.func bf) #[] fb] w fun e w' => ∃ er, ¬ er = 0 ∧ e = .returned (wideV 0 0) ∧ RdTo b w er l w' := by
  obtain ⟨hb0, hb1, hb2⟩ := two_wides w
  have hlt := h.lt
  have ne1 : ¬ w.heap.size = b := by omega
  have ne2 : ¬ w.heap.size + 1 = b := by omega
  have ne3 : ¬ b = w.heap.size := by omega
  have ne4 : ¬ b = w.heap.size + 1 := by omega
  have HF := Lib.hid (failed_no _ b (block_cell2 (h.below hb2).1).1.1)
  obtain ⟨⟨c1, c2⟩, _⟩ := block_cell2 (h.below hb2).1
  have HR := Lib.hid (h.below hb2)
  obtain ⟨A, cap, rfl, _⟩ := h.shape
  have HJ := Lib.hid hj
  have HB0 := Lib.hid hb0
  have HB1 := Lib.hid hb1
  have HB2 := Lib.hid hb2
  clear h hj hb0 hb1 hb2
  unfold wideO wideV at *
  go_enter Tryd.func103, Tryd.ntmps103
  go_wp2_with (first
    | (go_at_call 79; refine HF2.out.mono ?_; rintro e w2 ⟨rfl, rfl⟩)
    | (go_at_fn bf; refine HJ.out.mono ?_; rintro e w1 ⟨er, hi, lo, l1, he, rfl, v1, h2, hg2⟩
       have hn0 := block_grown HB0.out hg2 (by omega)
       have hn1 := block_grown HB1.out hg2 (by omega)
       have hz := hg2.size
       have z1 : w.heap.size + 1 < w1.heap.size := by simp at hz; omega
       have z2 : b < w1.heap.size := by omega
       have z3 : w.heap.size < w1.heap.size := by omega
       obtain ⟨⟨d1, d2⟩, f1, f2⟩ := wide_block hn0
       obtain ⟨⟨d3, d4⟩, f3, f4⟩ := wide_block hn1
       have hb3 : Below w1.heap.size w1 (w1.alloc (.cells #[.int .i64 hi, .int .u64 lo] 31)) := (Below.refl _ _).alloc (Nat.le_refl _) _
       have HF2 := Lib.hid (failed_yes _ b er he (block_cell2 (h2.below hb3).1).1.1)
       obtain ⟨⟨_, d5⟩, _, f5⟩ := block_cell2 h2.1
       have HV := Lib.hid h2
       have HG := Lib.hid hg2
       have HN0 := Lib.hid hn0
       clear h2 hg2 hz hn0 hn1 hb3)
    | (go_at_call 79; refine HF.out.mono ?_; rintro e w1 ⟨rfl, rfl⟩))
  have hend : ((((w1.setCell ⟨b, 1, none⟩ (.slice A l.length cap)).setCell ⟨w.heap.size, 0, none⟩ (.int .i64 0)).setCell ⟨w.heap.size, 1, none⟩ (.int .u64 0)).alloc (.cells #[.int .i64 hi, .int .u64 lo] 31)).heap[w.heap.size]? = some (wideO 0 0) :=
    block_old (block_set2 (block_set1 (block_set HN0.out (by show w.heap.size ≠ b; omega) _) _) _) _
  obtain ⟨⟨e1, e2⟩, _⟩ := wide_block hend
  obtain ⟨v3, h3, h4⟩ := rd_back HR.out HV.out HG.out
  refine bodyPost_ret (v := .agg #[.int .i64 0, .int .u64 0]) (by simp [results, Tryd.results103, go_sem, e1, e2]) rfl ⟨er, he, rfl, v3, ?_, ?_⟩
  · refine h3.upto (fun k hk => ?_)
    rw [Below.heap_alloc _ _ k (by simp [World.setCell]; omega), Below.heap_setCell _ _ _ _ (by show k ≠ w.heap.size; omega), Below.heap_setCell _ _ _ _ (by show k ≠ w.heap.size; omega)]
  · exact grown_alloc (grown_set (grown_set (grownBy_trans (grownBy_of_below _ HB2.out) h4) (Nat.le_refl _) _) (Nat.le_refl _) _) _

/-! ### The word's bytes -/
def byteF (er : Int) (l : List Int) : Int × Int × List Int := if er = 0 then (match l with | [] => (12, 0, []) | x :: r => (0, x, r)) else (er, 0, l)
theorem rbyte_any (w : World) (b : Nat) (er : Int) (l : List Int) (v : Value) (h : RdR w b er l v) : Calls Tryd.prog 72 #[.pointer (some ⟨b, 0, none⟩)] w fun e w' => e = .returned (.int .u8 (byteF er l).2.1) ∧ RdTo b w (byteF er l).1 (byteF er l).2.2 w' := by
  unfold byteF
  by_cases he : er = 0
  · subst he
    cases l with
    | nil => exact rbyte_end w b v h
    | cons x r => exact rbyte_some w b x r v h
  · rw [if_neg he]
    exact rbyte_bad w b er l v h he
/-- One byte more of the word. -/
def stepLo (lo x : Int) : Int := IntKind.u64.wrap (IntKind.u64.wrap (lo * 256) + IntKind.u64.wrap x)
def WidI (w : World) (b X : Nat) (hi : Int) (Q : Nat → Int → List Int → Int → Prop) (k : Nat) (wx : World) : Prop :=
  ∃ er l lo, RdTo b w er l wx ∧ wx.heap[X]? = some (wideO hi lo) ∧ Q k er l lo
set_option maxRecDepth 100000 in
set_option maxHeartbeats 4000000 in
theorem wide1_any (w : World) (b B : Nat) (hi er0 : Int) (l0 : List Int) (hlt : b < w.heap.size) (hB : w.heap[B]? = some (boxO b)) (hBb : B ≠ b) (Q : Nat → Int → List Int → Int → Prop) (hQ0 : Q 8 er0 l0 0)
    (hQ : ∀ k er l lo, bok l → Q (k + 1) er l lo → Q k (byteF er l).1 (byteF er l).2.2 (stepLo lo (byteF er l).2.1))
    (hn : Calls Tryd.prog 76 #[.pointer (some ⟨b, 0, none⟩)] (w.alloc (wideO 0 0)) fun e w' => e = .returned (.int .i64 hi) ∧ RdTo b (w.alloc (wideO 0 0)) er0 l0 w') :
    Calls Tryd.prog 104 #[.pointer (some ⟨B, 0, none⟩)] w fun e w' => ∃ er l lo, Q 0 er l lo ∧ e = .returned (wideV hi lo) ∧ RdTo b w er l w' := by
  obtain ⟨c1, _⟩ := block_cell hB
  have hBlt : B < w.heap.size := (Array.getElem?_eq_some_iff.1 hB).1
  have HBB := Lib.hid hB
  have HN := Lib.hid hn
  have HQ := Lib.hid hQ
  have HQ0 := Lib.hid hQ0
  clear hB hn hQ hQ0
  unfold wideV
  unfold wideO at HN
  go_enter Tryd.func104, Tryd.ntmps104
  go_wp2_with (go_at_call 76; refine HN.out.mono ?_; rintro e w1 ⟨rfl, h1⟩; have H1 := Lib.hid h1; clear h1)
  have HI : Hid (WidI (w.alloc (wideO 0 0)) b w1.heap.size hi Q 8 (w1.alloc (wideO hi 0))) := by
    obtain ⟨v1, h2, hg2⟩ := H1.out
    exact ⟨er0, l0, 0, ⟨v1, rd_box h2 _, grown_alloc hg2 _⟩, block_new _ _, HQ0.out⟩
  have HWA : Hid ((w.alloc (wideO 0 0)).heap[w.heap.size]? = some (wideO 0 0) ∧ w.heap.size < w1.heap.size) := ⟨block_new _ _, by obtain ⟨_, _, hg2⟩ := H1.out; have := hg2.size; simp at this; omega⟩
  have HB2 : Hid ((w.alloc (wideO 0 0)).heap[B]? = some (boxO b)) := block_old HBB.out _
  clear H1 HN HQ0
  go_loopg [6] 8 (fun k s6 wx => ∃ i : Nat, k = 8 - i ∧ i ≤ 8 ∧ s6 = .int .i64 (i : Int) ∧ Hid (WidI (w.alloc (wideO 0 0)) b w1.heap.size hi Q k wx))
  case atStart => exact ⟨0, rfl, by omega, rfl, HI⟩
  case round =>
    clear HI
    obtain ⟨i, rfl, hi8, rfl, hinv⟩ := hrel
    obtain ⟨er, l, lo, hrd, hX, hq⟩ := hinv.out
    by_cases hi7 : i < 8
    · have t1 : (i : Int) < 8 := by omega
      have t0 : (0 : Int) ≤ (i : Int) := by omega
      obtain ⟨v1, h2, hg2⟩ := hrd
      have HBY := Lib.hid (rbyte_any wr.drew b er l v1 h2.drew)
      have hbk := h2.2.2.1
      have HQ2 : Hid (Q (8 - (i + 1)) (byteF er l).1 (byteF er l).2.2 (stepLo lo (byteF er l).2.1)) := HQ.out _ er l lo hbk (by rw [show 8 - (i + 1) + 1 = 8 - i by omega]; exact hq)
      obtain ⟨er', her'⟩ : ∃ x, x = (byteF er l).1 := ⟨_, rfl⟩
      obtain ⟨x', hx'⟩ : ∃ x, x = (byteF er l).2.1 := ⟨_, rfl⟩
      obtain ⟨l', hl'⟩ : ∃ x, x = (byteF er l).2.2 := ⟨_, rfl⟩
      rw [← her', ← hx', ← hl'] at HBY HQ2
      obtain ⟨⟨d1, d2⟩, f1, f2⟩ := wide_block hX
      have d3 := (block_cell (block_grown HB2.out hg2 hBb)).1
      have HBW := Lib.hid (block_grown HB2.out hg2 hBb)
      have HX := Lib.hid hX
      have HG := Lib.hid hg2
      have xb : w1.heap.size ≠ b := by have := HWA.out.2; omega
      clear hq hX hbk h2 hg2 hinv her' hx' hl' hi8
      go_wp2_with fail
      go_region_with (go_at_call 72; refine HBY.out.mono ?_; rintro e w2 ⟨rfl, v2, h3, hg3⟩
                      have hX2 := block_grown (w := wr.drew) HX.out hg3 xb
                      obtain ⟨⟨e1, e2⟩, g1, g2⟩ := wide_block hX2
                      have HX2 := Lib.hid hX2
                      have HV2 := Lib.hid h3
                      have HG3 := Lib.hid (grownBy_trans HG.out (grownBy_trans (grownBy_drew wr (some b)) hg3))
                      clear hX2 h3 hg3)
      all_goals
        have FIN : Hid (WidI (w.alloc (wideO 0 0)) b w1.heap.size hi Q (8 - (i + 1)) (w2.setCell ⟨w1.heap.size, 1, none⟩ (.int .u64 (stepLo lo x')))) :=
          ⟨er', l', _, ⟨v2, HV2.out.upto (fun k hk => Below.heap_setCell _ _ _ _ (by have := HWA.out.2; show k ≠ w1.heap.size; omega)), grown_set HG3.out (by have := HWA.out.2; simp; omega) _⟩, block_set2 HX2.out _, HQ2.out⟩
        unfold stepLo at FIN
        go_wp2
        go_roundg (8 - (i + 1))
        case measure => omega
        case rel => exact ⟨i + 1, rfl, hi7, by go_num, FIN⟩
    · have hi88 : i = 8 := by omega
      subst hi88
      obtain ⟨v1, h2, hg2⟩ := hrd
      obtain ⟨⟨d1, d2⟩, f1, f2⟩ := wide_block hX
      have hA0 := block_grown HWA.out.1 hg2 (by omega)
      obtain ⟨⟨d3, d4⟩, f3, f4⟩ := wide_block hA0
      have HA0 := Lib.hid hA0
      have HV := Lib.hid h2
      have HG := Lib.hid hg2
      have HQQ := Lib.hid hq
      clear hq hX h2 hg2 hinv hA0
      go_wp2
      have hend : ((wr.setCell ⟨w.heap.size, 0, none⟩ (.int .i64 hi)).setCell ⟨w.heap.size, 1, none⟩ (.int .u64 lo)).heap[w.heap.size]? = some (wideO hi lo) := block_set2 (block_set1 HA0.out _) _
      obtain ⟨⟨e1, e2⟩, _⟩ := wide_block hend
      refine bodyPost_ret (v := .agg #[.int .i64 hi, .int .u64 lo]) (by simp [results, Tryd.results104, go_sem, e1, e2]) rfl ⟨er, l, lo, HQQ.out, rfl, v1, ?_, ?_⟩
      · exact HV.out.upto (fun k hk => by rw [Below.heap_setCell _ _ _ _ (by show k ≠ w.heap.size; omega), Below.heap_setCell _ _ _ _ (by show k ≠ w.heap.size; omega)])
      · exact grown_set (grown_set (grownBy_trans (grownBy_alloc w _ _) HG.out) (Nat.le_refl _) _) (Nat.le_refl _) _
end Go.Proofs.YteahloddjekakaaDoor.Oc
