/-
  The law RosterNews answers true: its walk. Conditions: none.
-/
import Derived.Test.YtkoihpfgleboiaaRKno
import Derived.Test.YtkoihpfgleboiaaRChk
import Derived.Test.YtkoihpfgleboiaaRQuiet
import Derived.Test.YtkoihpfgleboiaaROpen
namespace Go.Proofs.Ytkoihpfgleboiaa.Ro
open Go.RowKit Tb

theorem to_ok (w : World) (n : Int) (A : Option Addr) (c1 : Nat) (ss0 : List ByteArray) (B : Option Addr) (c2 : Nat) (ms0 : List (ByteArray × Int)) (hs0 : SRd w A ss0) (hm0 : MRd w B ms0) (hc1 : ss0.length ≤ c1) (hc2 : ms0.length ≤ c2) {k1 k2 : Nat} (h1 : k1 = (ss0.take 40).length) (h2 : k2 = (ms0.take 70).length) (h : newE n (ss0.take 40) (ms0.take 70) = 0) :
    Calls Try.prog 8 #[.agg #[.int .i64 n, .slice A ss0.length c1, .slice B ms0.length c2]] w fun e w' => ∃ b, e = .returned (.tuple #[.pointer (some ⟨b, 0, none⟩), .agg #[.int .i64 n, .slice A k1 c1, .slice B k2 c2], .int .i64 0]) ∧ RosS w' b n (isL (ss0.take 40)) (meL (ms0.take 70)) ∧ Below w.heap.size w w' := by
  subst h1 h2
  refine (to_any w n A c1 ss0 B c2 ms0 hs0 hm0 hc1 hc2).mono ?_
  rintro e w' ⟨hb, ⟨_, b, rfl, h2⟩ | ⟨hn, _⟩⟩
  · exact ⟨b, rfl, h2, hb⟩
  · exact absurd h hn
theorem to_bad (w : World) (n : Int) (A : Option Addr) (c1 : Nat) (ss0 : List ByteArray) (B : Option Addr) (c2 : Nat) (ms0 : List (ByteArray × Int)) (hs0 : SRd w A ss0) (hm0 : MRd w B ms0) (hc1 : ss0.length ≤ c1) (hc2 : ms0.length ≤ c2) {k1 k2 : Nat} (h1 : k1 = (ss0.take 40).length) (h2 : k2 = (ms0.take 70).length) {r : Int} (hr : r = newE n (ss0.take 40) (ms0.take 70)) (h : r ≠ 0) :
    Calls Try.prog 8 #[.agg #[.int .i64 n, .slice A ss0.length c1, .slice B ms0.length c2]] w fun e w' => e = .returned (.tuple #[.pointer none, .agg #[.int .i64 n, .slice A k1 c1, .slice B k2 c2], .int .i64 r]) ∧ Below w.heap.size w w' := by
  subst h1 h2 hr
  refine (to_any w n A c1 ss0 B c2 ms0 hs0 hm0 hc1 hc2).mono ?_
  rintro e w' ⟨hb, ⟨hn, _⟩ | ⟨_, rfl⟩⟩
  · exact absurd hn h
  · exact ⟨rfl, hb⟩

set_option maxRecDepth 100000 in
set_option maxHeartbeats 8000000 in
theorem law_news_in (w : World) (n : Int) (A : Option Addr) (c1 : Nat) (ss0 : List ByteArray) (B : Option Addr) (c2 : Nat) (ms0 : List (ByteArray × Int)) (hs0 : SRd w A ss0) (hm0 : MRd w B ms0) (hc1 : ss0.length ≤ c1) (hc2 : ms0.length ≤ c2) :
    Calls Try.prog 3 #[.agg #[.int .i64 n, .slice A ss0.length c1, .slice B ms0.length c2]] w fun e w' => e = .returned (.bool true) ∧ Below w.heap.size w w' := by
  obtain ⟨k1, h1⟩ : ∃ k, k = (ss0.take 40).length := ⟨_, rfl⟩
  obtain ⟨k2, h2⟩ : ∃ k, k = (ms0.take 70).length := ⟨_, rfl⟩
  obtain ⟨r, hr⟩ : ∃ r, r = newE n (ss0.take 40) (ms0.take 70) := ⟨_, rfl⟩
  have HB0 : Hid (Below w.heap.size w (w.alloc (.cells #[.int .i64 n, .slice A ss0.length c1, .slice B ms0.length c2] 25))) := (Below.refl _ _).alloc (Nat.le_refl _) _
  obtain ⟨⟨x0, x1, x2⟩, _⟩ := blk3 (block_new w (.cells #[.int .i64 n, .slice A ss0.length c1, .slice B ms0.length c2] 25))
  have HC : Hid (∀ W, Below w.heap.size w W → Calls Try.prog 10 #[.agg #[.int .i64 n, .slice A k1 c1, .slice B k2 c2]] W fun e w' => e = .returned (.int .i64 r) ∧ Below W.heap.size W w') := fun W hW => by
    have := rcheck_any W n A c1 (ss0.take 40) B c2 (ms0.take 70) ((srd_take hs0 40).below hW) ((mrd_take hm0 70).below hW) (Lib.hid hr)
    rw [← h1, ← h2] at this
    exact this
  by_cases hz : r = 0
  · have HT := Lib.hid (to_ok (w.alloc (.cells #[.int .i64 n, .slice A ss0.length c1, .slice B ms0.length c2] 25)) n A c1 ss0 B c2 ms0 (hs0.below HB0.out) (hm0.below HB0.out) hc1 hc2 h1 h2 (hr.symm.trans hz))
    obtain ⟨I, hI⟩ : ∃ I, I = isL (ss0.take 40) := ⟨_, rfl⟩
    obtain ⟨M, hM⟩ : ∃ M, M = meL (ms0.take 70) := ⟨_, rfl⟩
    rw [← hI, ← hM] at HT
    subst hz
    clear hs0 hm0 hr h1 h2 hc1 hc2 hI hM
    go_enter Try.func3, Try.ntmps3
    go_wp2_with (go_at_call 8; refine HT.out.mono ?_; rintro e w1 ⟨b, rfl, hS, hb⟩; have HS1 := Lib.hid hS; have HB1 := Lib.hid (HB0.out.trans (hb.mono HB0.out.size)); clear hS hb)
    have HX := Lib.hid (blk3 (block_new w1 (.cells #[.int .i64 n, .slice A k1 c1, .slice B k2 c2] 25)))
    have HBW : Hid (Below w1.heap.size w1 (w1.alloc (.cells #[.int .i64 n, .slice A k1 c1, .slice B k2 c2] 25))) := (Below.refl _ _).alloc (Nat.le_refl _) _
    have HB2 : Hid (Below w.heap.size w (w1.alloc (.cells #[.int .i64 n, .slice A k1 c1, .slice B k2 c2] 25))) := HB1.out.trans (HBW.out.mono HB1.out.size)
    have HS2 := Lib.hid (HS1.out.below HBW.out)
    have HBX : Hid (w1.heap.size < (w1.alloc (.cells #[.int .i64 n, .slice A k1 c1, .slice B k2 c2] 25)).heap.size) := (by show _ < _; simp)
    obtain ⟨W, hW⟩ : ∃ W, W = w1.alloc (.cells #[.int .i64 n, .slice A k1 c1, .slice B k2 c2] 25) := ⟨_, rfl⟩
    rw [← hW] at HX HB2 HS2 ⊢
    have y0 : ∀ p : InW W, p.val.cell? ⟨w1.heap.size, 0, none⟩ = some (.int .i64 n) := fun p => p.cell HX.out.1.1
    have y1 : ∀ p : InW W, p.val.cell? ⟨w1.heap.size, 1, none⟩ = some (.slice A k1 c1) := fun p => p.cell HX.out.1.2.1
    have y2 : ∀ p : InW W, p.val.cell? ⟨w1.heap.size, 2, none⟩ = some (.slice B k2 c2) := fun p => p.cell HX.out.1.2.2
    have CC : Hid (∀ p : InW W, Calls Try.prog 10 #[.agg #[.int .i64 n, .slice A k1 c1, .slice B k2 c2]] p.val fun e w' => e = .returned (.int .i64 0) ∧ ∃ q : InW W, w' = q.val) := fun p => calls_in (HC.out p.val (HB2.out.trans (p.bel.mono HB2.out.size)))
    have CK : Hid (∀ p : InW W, Calls Try.prog 9 #[] p.val fun e w' => e = .returned (.bool true) ∧ ∃ q : InW W, w' = q.val) := fun p => calls_in (known_any p.val)
    have CN : Hid (∀ p : InW W, Calls Try.prog 11 #[.pointer (some ⟨b, 0, none⟩)] p.val fun e w' => e = .returned (.int .i64 n) ∧ ∃ q : InW W, w' = q.val) := fun p => calls_in (nodes_any p.val _ n _ _ (.inr ⟨b, rfl, HS2.out.below p.bel⟩))
    clear hW HX HS1 HBW HBX x0 x1 x2
    refine wp_region_below (W := W) (by kernel_rfl) (by kernel_rfl) (Below.refl _ _) ?_
    repeat (go_big_quiet_step ((first | (go_at_call 9; exact CK.out _) | (go_at_call 10; exact CC.out _) | (go_at_call 11; exact CN.out _))))
    refine wpQuiet_nil ?_
    rintro _ ⟨⟨wq, hbq⟩, rfl⟩
    go_wp2
    go_ret
    exact ⟨rfl, HB2.out.trans (hbq.mono HB2.out.size)⟩
  · have HT := Lib.hid (to_bad (w.alloc (.cells #[.int .i64 n, .slice A ss0.length c1, .slice B ms0.length c2] 25)) n A c1 ss0 B c2 ms0 (hs0.below HB0.out) (hm0.below HB0.out) hc1 hc2 h1 h2 hr hz)
    have e1 : (r != 0) = true := by simpa using hz
    have e2 : (r == 0) = false := by simpa using hz
    have e3 : (r == r) = true := by simp
    clear hs0 hm0 hr h1 h2 hc1 hc2
    go_enter Try.func3, Try.ntmps3
    go_wp2_with (go_at_call 8; refine HT.out.mono ?_; rintro e w1 ⟨rfl, hb⟩; have HB1 := Lib.hid (HB0.out.trans (hb.mono HB0.out.size)); clear hb)
    have HX := Lib.hid (blk3 (block_new w1 (.cells #[.int .i64 n, .slice A k1 c1, .slice B k2 c2] 25)))
    have HBW : Hid (Below w1.heap.size w1 (w1.alloc (.cells #[.int .i64 n, .slice A k1 c1, .slice B k2 c2] 25))) := (Below.refl _ _).alloc (Nat.le_refl _) _
    have HB2 : Hid (Below w.heap.size w (w1.alloc (.cells #[.int .i64 n, .slice A k1 c1, .slice B k2 c2] 25))) := HB1.out.trans (HBW.out.mono HB1.out.size)
    obtain ⟨W, hW⟩ : ∃ W, W = w1.alloc (.cells #[.int .i64 n, .slice A k1 c1, .slice B k2 c2] 25) := ⟨_, rfl⟩
    rw [← hW] at HX HB2 ⊢
    have y0 : ∀ p : InW W, p.val.cell? ⟨w1.heap.size, 0, none⟩ = some (.int .i64 n) := fun p => p.cell HX.out.1.1
    have y1 : ∀ p : InW W, p.val.cell? ⟨w1.heap.size, 1, none⟩ = some (.slice A k1 c1) := fun p => p.cell HX.out.1.2.1
    have y2 : ∀ p : InW W, p.val.cell? ⟨w1.heap.size, 2, none⟩ = some (.slice B k2 c2) := fun p => p.cell HX.out.1.2.2
    have CC : Hid (∀ p : InW W, Calls Try.prog 10 #[.agg #[.int .i64 n, .slice A k1 c1, .slice B k2 c2]] p.val fun e w' => e = .returned (.int .i64 r) ∧ ∃ q : InW W, w' = q.val) := fun p => calls_in (HC.out p.val (HB2.out.trans (p.bel.mono HB2.out.size)))
    have CK : Hid (∀ p : InW W, Calls Try.prog 9 #[] p.val fun e w' => e = .returned (.bool true) ∧ ∃ q : InW W, w' = q.val) := fun p => calls_in (known_any p.val)
    clear hW HX HBW x0 x1 x2
    refine wp_region_below (W := W) (by kernel_rfl) (by kernel_rfl) (Below.refl _ _) ?_
    repeat (go_big_quiet_step ((first | (go_at_call 9; exact CK.out _) | (go_at_call 10; exact CC.out _))))
    refine wpQuiet_nil ?_
    rintro _ ⟨⟨wq, hbq⟩, rfl⟩
    go_wp2
    go_ret
    exact ⟨rfl, HB2.out.trans (hbq.mono HB2.out.size)⟩
theorem law_news (w : World) (v : Value) (h : RosIn w v) : Calls Try.prog 3 #[v] w fun e w' => e = .returned (.bool true) ∧ Below w.heap.size w w' := by
  obtain ⟨n, A, ss, c1, B, ms, c2, rfl, h1, h2, h3, h4, _⟩ := h
  exact law_news_in w n A c1 ss B c2 ms h1 h2 h3 h4
end Go.Proofs.Ytkoihpfgleboiaa.Ro
