/-
  The law RosterRoutes answers true: its walk. Conditions: none.
-/
import Derived.Test.YtkoihpfgleboiaaRLNew
import Derived.Test.YtkoihpfgleboiaaRLNil
import Derived.Test.YtkoihpfgleboiaaRMat2
namespace Go.Proofs.Ytkoihpfgleboiaa.Ro
open Go.RowKit Tb Td

theorem to_boxed (W : World) (t y : Tr) : Below W.heap.size W ((((W.alloc (.cells #[.int .i64 t.n, .string t.b, .string t.s, .string t.i, .int .i64 t.q, .int .i64 t.p] 49)).alloc (.cells #[.int .i64 y.n, .string y.b, .string y.s, .string y.i, .int .i64 y.q, .int .i64 y.p] 50)).drew).alloc (.cells #[.int .i64 y.n, .string y.b, .string y.s, .string y.i, .int .i64 y.q, .int .i64 y.p] 50)) := by
  have h1 : Below W.heap.size W (W.alloc (.cells #[.int .i64 t.n, .string t.b, .string t.s, .string t.i, .int .i64 t.q, .int .i64 t.p] 49)) := (Below.refl _ _).alloc (Nat.le_refl _) _
  have h2 := (h1.alloc h1.size (.cells #[.int .i64 y.n, .string y.b, .string y.s, .string y.i, .int .i64 y.q, .int .i64 y.p] 50)).drew
  exact h2.alloc h2.size _
set_option maxRecDepth 100000 in
set_option maxHeartbeats 8000000 in
theorem law_routes_bad (w : World) (n : Int) (A : Option Addr) (c1 : Nat) (ss0 : List ByteArray) (B : Option Addr) (c2 : Nat) (ms0 : List (ByteArray × Int)) (t : Tr) (hs0 : SRd w A ss0) (hm0 : MRd w B ms0) (hc1 : ss0.length ≤ c1) (hc2 : ms0.length ≤ c2) (hz : newE n (ss0.take 40) (ms0.take 70) ≠ 0) :
    Calls Try.prog 5 #[.agg #[.int .i64 n, .slice A ss0.length c1, .slice B ms0.length c2], .agg #[.int .i64 t.n, .string t.b, .string t.s, .string t.i, .int .i64 t.q, .int .i64 t.p]] w fun e w' => e = .returned (.bool true) ∧ Below w.heap.size w w' := by
  obtain ⟨k1, h1⟩ : ∃ k, k = (ss0.take 40).length := ⟨_, rfl⟩
  obtain ⟨k2, h2⟩ : ∃ k, k = (ms0.take 70).length := ⟨_, rfl⟩
  obtain ⟨r, hr⟩ : ∃ r, r = newE n (ss0.take 40) (ms0.take 70) := ⟨_, rfl⟩
  rw [← hr] at hz
  have E0 := two_box w (.cells #[.int .i64 n, .slice A ss0.length c1, .slice B ms0.length c2] 25) (.cells #[.int .i64 t.n, .string t.b, .string t.s, .string t.i, .int .i64 t.q, .int .i64 t.p] 49)
  obtain ⟨W0, hW0⟩ : ∃ W0, W0 = (w.alloc (.cells #[.int .i64 n, .slice A ss0.length c1, .slice B ms0.length c2] 25)).alloc (.cells #[.int .i64 t.n, .string t.b, .string t.s, .string t.i, .int .i64 t.q, .int .i64 t.p] 49) := ⟨_, rfl⟩
  rw [← hW0] at E0
  have HB0 := Lib.hid E0.2.2
  have HC : Hid (∀ W, Below w.heap.size w W → Calls Try.prog 10 #[.agg #[.int .i64 n, .slice A k1 c1, .slice B k2 c2]] W fun e w' => e = .returned (.int .i64 r) ∧ Below W.heap.size W w') := fun W hW => by
    have := rcheck_any W n A c1 (ss0.take 40) B c2 (ms0.take 70) ((srd_take hs0 40).below hW) ((mrd_take hm0 70).below hW) (Lib.hid hr)
    rw [← h1, ← h2] at this
    exact this
  have HT := Lib.hid (to_bad W0 n A c1 ss0 B c2 ms0 (hs0.below HB0.out) (hm0.below HB0.out) hc1 hc2 h1 h2 hr hz)
  have e1 : (r != 0) = true := by simpa using hz
  obtain ⟨⟨x0, x1, x2⟩, _⟩ := blk3 E0.1
  clear hs0 hm0 hr h1 h2 hc1 hc2 E0
  go_enter Try.func5, Try.ntmps5
  go_upto_region 1 with fail
  rw [← hW0]
  clear hW0
  go_wp2_with (first
    | (go_at_call 8; refine HT.out.mono ?_; rintro e w1 ⟨rfl, hb⟩; have HX := Lib.hid (blk3 (block_new w1 (.cells #[.int .i64 n, .slice A k1 c1, .slice B k2 c2] 25))); have HB1 := Lib.hid ((HB0.out.trans (hb.mono HB0.out.size)).alloc (HB0.out.trans (hb.mono HB0.out.size)).size (.cells #[.int .i64 n, .slice A k1 c1, .slice B k2 c2] 25)); have HBN := Lib.hid (block_new w1 (.cells #[.int .i64 n, .slice A k1 c1, .slice B k2 c2] 25)); clear hb)
    | (go_at_call 9; refine (known_any _).mono ?_; rintro e w2 ⟨rfl, hb⟩; obtain ⟨⟨y0, y1, y2⟩, _⟩ := blk3 (block_kept HBN.out hb); have HB2 := Lib.hid (HB1.out.trans (hb.mono HB1.out.size)); clear hb)
    | (go_at_call 10; refine (HC.out _ HB2.out).mono ?_; rintro e w3 ⟨rfl, hb⟩; have HB3 := Lib.hid (HB2.out.trans (hb.mono HB2.out.size)); clear hb))
  go_ret
  exact ⟨rfl, HB3.out⟩

set_option maxRecDepth 100000 in
set_option maxHeartbeats 8000000 in
theorem law_routes_ok (w : World) (n : Int) (A : Option Addr) (c1 : Nat) (ss0 : List ByteArray) (B : Option Addr) (c2 : Nat) (ms0 : List (ByteArray × Int)) (t : Tr) (hs0 : SRd w A ss0) (hm0 : MRd w B ms0) (hc1 : ss0.length ≤ c1) (hc2 : ms0.length ≤ c2) (hz : newE n (ss0.take 40) (ms0.take 70) = 0) :
    Calls Try.prog 5 #[.agg #[.int .i64 n, .slice A ss0.length c1, .slice B ms0.length c2], .agg #[.int .i64 t.n, .string t.b, .string t.s, .string t.i, .int .i64 t.q, .int .i64 t.p]] w fun e w' => e = .returned (.bool true) ∧ Below w.heap.size w w' := by
  obtain ⟨k1, h1⟩ : ∃ k, k = (ss0.take 40).length := ⟨_, rfl⟩
  obtain ⟨k2, h2⟩ : ∃ k, k = (ms0.take 70).length := ⟨_, rfl⟩
  have hR := right_of hz
  have E0 := two_box w (.cells #[.int .i64 n, .slice A ss0.length c1, .slice B ms0.length c2] 25) (.cells #[.int .i64 t.n, .string t.b, .string t.s, .string t.i, .int .i64 t.q, .int .i64 t.p] 49)
  obtain ⟨W0, hW0⟩ : ∃ W0, W0 = (w.alloc (.cells #[.int .i64 n, .slice A ss0.length c1, .slice B ms0.length c2] 25)).alloc (.cells #[.int .i64 t.n, .string t.b, .string t.s, .string t.i, .int .i64 t.q, .int .i64 t.p] 49) := ⟨_, rfl⟩
  rw [← hW0] at E0
  have HB0 := Lib.hid E0.2.2
  have HTB := Lib.hid E0.2.1
  obtain ⟨y, hy⟩ : ∃ y, y = cutT t := ⟨_, rfl⟩
  have HY := Lib.hid hy
  have hSy : Sm y := by rw [hy]; exact ⟨Nat.le_trans (cut40_size _) (by decide), Nat.le_trans (cut40_size _) (by decide), Nat.le_trans (cut40_size _) (by decide)⟩
  have HT := Lib.hid (to_ok W0 n A c1 ss0 B c2 ms0 (hs0.below HB0.out) (hm0.below HB0.out) hc1 hc2 h1 h2 hz)
  obtain ⟨⟨r0, r1, r2⟩, hr⟩ : ∃ r, r = routeV (isL (ss0.take 40)) (meL (ms0.take 70)) y := ⟨_, rfl⟩
  have hr2 : (r0, r1, r2) = routeR (ss0.take 40) (ms0.take 70) y := hr.trans (route_eq hR y)
  have HRO : Hid (∀ W b, RosS W b n (isL (ss0.take 40)) (meL (ms0.take 70)) → Calls Try.prog 24 #[.pointer (some ⟨b, 0, none⟩), .agg #[.int .i64 y.n, .string y.b, .string y.s, .string y.i, .int .i64 y.q, .int .i64 y.p]] W fun e w' => e = .returned (.tuple #[.int .i64 r0, .int .i64 r1, .int .i64 r2]) ∧ Below W.heap.size W w') := fun W b hS =>
    route_any W _ n _ _ y (.inr ⟨b, rfl, hS⟩) (isL_asc _) (meL_asc _) (by have := hR.slen; have := hR.s32; omega) (by have := hR.mlen; have := hR.m64; omega) hSy (Lib.hid hr)
  have HLO : Hid (∀ W b, RosS W b n (isL (ss0.take 40)) (meL (ms0.take 70)) → Calls Try.prog 27 #[.pointer (some ⟨b, 0, none⟩), .agg #[.int .i64 y.n, .string y.b, .string y.s, .string y.i, .int .i64 y.q, .int .i64 y.p]] W fun e w' => e = .returned (.bool (decide (r2 = 0) && decide (r0 = r1))) ∧ Below W.heap.size W w') := fun W b hS =>
    local_any W _ n _ _ y (.inr ⟨b, rfl, hS⟩) (isL_asc _) (meL_asc _) (by have := hR.slen; have := hR.s32; omega) (by have := hR.mlen; have := hR.m64; omega) hSy (Lib.hid (by rw [← hr]; rfl))
  have HRR : Hid (∀ W, Below w.heap.size w W → Calls Try.prog 25 #[.agg #[.int .i64 n, .slice A k1 c1, .slice B k2 c2], .agg #[.int .i64 y.n, .string y.b, .string y.s, .string y.i, .int .i64 y.q, .int .i64 y.p]] W fun e w' => e = .returned (.tuple #[.int .i64 r0, .int .i64 r1, .int .i64 r2]) ∧ Below W.heap.size W w') := fun W hW => by
    have := rroute_any W n A c1 (ss0.take 40) B c2 (ms0.take 70) y ((srd_take hs0 40).below hW) ((mrd_take hm0 70).below hW) (by have := hR.s32; omega) (by have := hR.m64; omega) hSy (Lib.hid hr2)
    rw [← h1, ← h2] at this
    exact this
  obtain ⟨I, hI⟩ : ∃ I, I = isL (ss0.take 40) := ⟨_, rfl⟩
  obtain ⟨M, hM⟩ : ∃ M, M = meL (ms0.take 70) := ⟨_, rfl⟩
  rw [← hI, ← hM] at HT HRO HLO
  obtain ⟨⟨x0, x1, x2⟩, _⟩ := blk3 E0.1
  have e0 : (r0 == r0) = true := by simp
  have e1 : (r1 == r1) = true := by simp
  have e2 : (r2 == r2) = true := by simp
  clear hs0 hm0 hr hr2 h1 h2 hc1 hc2 E0 hR hz hy hI hM hSy
  have main : ∀ (q z : Bool), (r2 == 0) = q → (r0 == r1) = z → Hid ((decide (r2 = 0) && decide (r0 = r1)) = (q && z)) → Calls Try.prog 5 #[.agg #[.int .i64 n, .slice A ss0.length c1, .slice B ms0.length c2], .agg #[.int .i64 t.n, .string t.b, .string t.s, .string t.i, .int .i64 t.q, .int .i64 t.p]] w fun e w' => e = .returned (.bool true) ∧ Below w.heap.size w w' := by
    intro q z hq hz hqz
    rw [hqz.out] at HLO
    clear hqz
    go_enter Try.func5, Try.ntmps5
    go_upto_region 1 with fail
    rw [← hW0]
    clear hW0
    go_wp2_with (first
      | (go_at_call 8; refine HT.out.mono ?_; rintro e w1 ⟨b, rfl, hS, hb⟩; have HBN := Lib.hid (block_new w1 (.cells #[.int .i64 n, .slice A k1 c1, .slice B k2 c2] 25)); have HB1 := Lib.hid ((HB0.out.trans (hb.mono HB0.out.size)).alloc (HB0.out.trans (hb.mono HB0.out.size)).size (.cells #[.int .i64 n, .slice A k1 c1, .slice B k2 c2] 25)); have HA1 : Hid (Below w1.heap.size w1 (w1.alloc (.cells #[.int .i64 n, .slice A k1 c1, .slice B k2 c2] 25))) := (Below.refl _ _).alloc (Nat.le_refl _) _; have HS1 := Lib.hid (hS.below HA1.out); obtain ⟨t0, t1, t2, t3, t4, t5⟩ := blk6 (block_kept (block_kept HTB.out hb) HA1.out); clear hb hS)
      | (go_at_call 23; refine (to_exact _ t y HY).mono ?_; rintro e w2 ⟨rfl, hw2⟩; have HA2 : Hid (Below (w1.alloc (.cells #[.int .i64 n, .slice A k1 c1, .slice B k2 c2] 25)).heap.size (w1.alloc (.cells #[.int .i64 n, .slice A k1 c1, .slice B k2 c2] 25)) (w2.alloc (.cells #[.int .i64 y.n, .string y.b, .string y.s, .string y.i, .int .i64 y.q, .int .i64 y.p] 50))) := (by show Below _ _ _; rw [hw2]; exact to_boxed _ t y); have HBY := Lib.hid (block_new w2 (.cells #[.int .i64 y.n, .string y.b, .string y.s, .string y.i, .int .i64 y.q, .int .i64 y.p] 50)); clear hw2)
      | (go_at_call 24; refine (HRO.out _ _ (HS1.out.below HA2.out)).mono ?_; rintro e w3 ⟨rfl, hb3⟩; have HB3 := Lib.hid hb3; clear hb3))
    have HS3 := Lib.hid ((HS1.out.below HA2.out).below HB3.out)
    have BY3 := Lib.hid (block_kept HBY.out HB3.out)
    have BN3 := Lib.hid (block_kept (block_kept HBN.out HA2.out) HB3.out)
    have HBW := Lib.hid ((HB1.out.trans (HA2.out.mono HB1.out.size)).trans (HB3.out.mono (HB1.out.trans (HA2.out.mono HB1.out.size)).size))
    have HX := Lib.hid (blk3 BN3.out).1
    have HT6 := Lib.hid (blk6 BY3.out)
    have y0 : ∀ p : InW w3, p.val.cell? ⟨w1.heap.size, 0, none⟩ = some (.int .i64 n) := fun p => p.cell HX.out.1
    have y1 : ∀ p : InW w3, p.val.cell? ⟨w1.heap.size, 1, none⟩ = some (.slice A k1 c1) := fun p => p.cell HX.out.2.1
    have y2 : ∀ p : InW w3, p.val.cell? ⟨w1.heap.size, 2, none⟩ = some (.slice B k2 c2) := fun p => p.cell HX.out.2.2
    have z0 : ∀ p : InW w3, p.val.cell? ⟨w2.heap.size, 0, none⟩ = some (.int .i64 y.n) := fun p => p.cell HT6.out.1
    have z1 : ∀ p : InW w3, p.val.cell? ⟨w2.heap.size, 1, none⟩ = some (.string y.b) := fun p => p.cell HT6.out.2.1
    have z2 : ∀ p : InW w3, p.val.cell? ⟨w2.heap.size, 2, none⟩ = some (.string y.s) := fun p => p.cell HT6.out.2.2.1
    have z3 : ∀ p : InW w3, p.val.cell? ⟨w2.heap.size, 3, none⟩ = some (.string y.i) := fun p => p.cell HT6.out.2.2.2.1
    have z4 : ∀ p : InW w3, p.val.cell? ⟨w2.heap.size, 4, none⟩ = some (.int .i64 y.q) := fun p => p.cell HT6.out.2.2.2.2.1
    have z5 : ∀ p : InW w3, p.val.cell? ⟨w2.heap.size, 5, none⟩ = some (.int .i64 y.p) := fun p => p.cell HT6.out.2.2.2.2.2
    have CO : Hid (∀ p : InW w3, Calls Try.prog 26 #[.agg #[.int .i64 y.n, .string y.b, .string y.s, .string y.i, .int .i64 y.q, .int .i64 y.p]] p.val fun e w' => e = .returned (.agg #[.int .i64 y.n, .string y.b, .string y.s, .string y.i, .int .i64 y.q, .int .i64 y.p]) ∧ ∃ q : InW w3, w' = q.val) := fun p => calls_in (of_below p.val y)
    have CR : Hid (∀ p : InW w3, Calls Try.prog 25 #[.agg #[.int .i64 n, .slice A k1 c1, .slice B k2 c2], .agg #[.int .i64 y.n, .string y.b, .string y.s, .string y.i, .int .i64 y.q, .int .i64 y.p]] p.val fun e w' => e = .returned (.tuple #[.int .i64 r0, .int .i64 r1, .int .i64 r2]) ∧ ∃ q : InW w3, w' = q.val) := fun p => calls_in (HRR.out p.val (HBW.out.trans (p.bel.mono HBW.out.size)))
    refine wp_region_below (W := w3) (by kernel_rfl) (by kernel_rfl) (Below.refl _ _) ?_
    repeat (go_big_quiet_step ((first | (go_at_call 26; exact CO.out _) | (go_at_call 25; exact CR.out _))))
    refine wpQuiet_nil ?_
    rintro _ ⟨⟨wq, hbq⟩, rfl⟩
    clear y0 y1 y2 z0 z1 z2 z3 z4 z5
    have HBQ := Lib.hid hbq
    clear hbq
    cases q <;> cases z
    all_goals
      go_wp2_with (first
        | (go_at_call 9; refine (known_any _).mono ?_; rintro e w4 ⟨rfl, hb4⟩; have HB4 := Lib.hid (HBQ.out.trans (hb4.mono HBQ.out.size)); obtain ⟨v0, v1, v2, v3, v4, v5⟩ := blk6 (block_kept BY3.out (HBQ.out.trans (hb4.mono HBQ.out.size))); clear hb4)
        | (go_at_call 27; refine (HLO.out _ _ (HS3.out.below HB4.out)).mono ?_; rintro e w5 ⟨rfl, hb5⟩; have HB5 := Lib.hid (HB4.out.trans (hb5.mono HB4.out.size)); clear hb5))
      go_ret
      exact ⟨rfl, HBW.out.trans (HB5.out.mono HBW.out.size)⟩
  refine main _ _ rfl rfl ?_
  show (decide (r2 = 0) && decide (r0 = r1)) = _
  by_cases h1 : r2 = 0 <;> by_cases h2 : r0 = r1 <;> simp [h1, h2]
theorem law_routes (w : World) (v : Value) (h : RosIn w v) (t : Tr) : Calls Try.prog 5 #[v, .agg #[.int .i64 t.n, .string t.b, .string t.s, .string t.i, .int .i64 t.q, .int .i64 t.p]] w fun e w' => e = .returned (.bool true) ∧ Below w.heap.size w w' := by
  obtain ⟨n, A, ss, c1, B, ms, c2, rfl, h1, h2, h3, h4, _⟩ := h
  by_cases hz : newE n (ss.take 40) (ms.take 70) = 0
  · exact law_routes_ok w n A c1 ss B c2 ms t h1 h2 h3 h4 hz
  · exact law_routes_bad w n A c1 ss B c2 ms t h1 h2 h3 h4 hz
end Go.Proofs.Ytkoihpfgleboiaa.Ro
