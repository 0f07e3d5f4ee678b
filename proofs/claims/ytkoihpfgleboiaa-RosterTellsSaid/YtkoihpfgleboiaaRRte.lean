/-
  The contracts of Route and Local. Conditions: texts of at most 100000 bytes, at most a thousand rows.
-/
import Derived.Test.YtkoihpfgleboiaaRTell
import Derived.Test.YtkoihpfgleboiaaYChk
namespace Go.Proofs.Ytkoihpfgleboiaa.Ro
open Go.RowKit Tb Td

/-- A trade's route, or what is wrong. -/
def routeV (I : List (ByteArray × Unit)) (M : List (ByteArray × Int)) (x : Tr) : Int × Int × Int :=
  if chk x = 0 then (if hasB M x.b = true ∧ hasB M x.s = true ∧ hasB I x.i = true then (Si.getL M x.b, Si.getL M x.s, 0) else (0, 0, 5)) else (0, 0, chk x)

set_option maxRecDepth 100000 in
set_option maxHeartbeats 4000000 in
theorem route_any (w : World) (p : Option Addr) (n : Int) (I : List (ByteArray × Unit)) (M : List (ByteArray × Int)) (x : Tr) (h : RosR w p n I M) (hI : asc I) (hM : asc M) (nI : I.length ≤ 1000) (nM : M.length ≤ 1000) (hx : Sm x) {r0 r1 r2 : Int} (hr : Hid ((r0, r1, r2) = routeV I M x)) :
    Calls Try.prog 24 #[.pointer p, .agg #[.int .i64 x.n, .string x.b, .string x.s, .string x.i, .int .i64 x.q, .int .i64 x.p]] w fun e w' => e = .returned (.tuple #[.int .i64 r0, .int .i64 r1, .int .i64 r2]) ∧ Below w.heap.size w w' := by
  have hB0 : Below w.heap.size w (w.alloc (.cells #[.int .i64 x.n, .string x.b, .string x.s, .string x.i, .int .i64 x.q, .int .i64 x.p] 50)) := (Below.refl _ _).alloc (Nat.le_refl _) _
  have hbx := block_new w (.cells #[.int .i64 x.n, .string x.b, .string x.s, .string x.i, .int .i64 x.q, .int .i64 x.p] 50)
  have HH : ∀ s, Hid (∀ W, Below w.heap.size w W → Calls Try.prog 12 #[.pointer p, .string s] W fun e w' => e = .returned (.tuple #[.int .i64 (Si.getL M s), .int .i64 (errB (hasB M s))]) ∧ Below W.heap.size W w') := fun s W hW =>
    home_any W p n I M s (h.below hW) hM nM
  have HA : Hid (∀ W, Below w.heap.size w W → Calls Try.prog 19 #[.pointer p, .string x.i] W fun e w' => e = .returned (.bool (hasB I x.i)) ∧ Below W.heap.size W w') := fun W hW =>
    has_any W p n I M x.i (h.below hW) hI nI
  have H1 := HH x.b
  have H2 := HH x.s
  obtain ⟨c, hc⟩ : ∃ c, c = chk x := ⟨_, rfl⟩
  have HC := Lib.hid (check_any (w.alloc (.cells #[.int .i64 x.n, .string x.b, .string x.s, .string x.i, .int .i64 x.q, .int .i64 x.p] 50)) x hx (Lib.hid hc))
  have hr' := hr.out
  unfold routeV at hr'
  rw [← hc] at hr'
  have HB0 := Lib.hid hB0
  have HBX := Lib.hid hbx
  obtain ⟨x0, x1, x2, x3, x4, x5⟩ := blk6 hbx
  obtain ⟨q1, hq1⟩ : ∃ q, q = hasB M x.b := ⟨_, rfl⟩
  obtain ⟨q2, hq2⟩ : ∃ q, q = hasB M x.s := ⟨_, rfl⟩
  obtain ⟨q3, hq3⟩ : ∃ q, q = hasB I x.i := ⟨_, rfl⟩
  obtain ⟨g1, hg1⟩ : ∃ g, g = Si.getL M x.b := ⟨_, rfl⟩
  obtain ⟨g2, hg2⟩ : ∃ g, g = Si.getL M x.s := ⟨_, rfl⟩
  obtain ⟨e1, he1⟩ : ∃ e, e = errB q1 := ⟨_, rfl⟩
  obtain ⟨e2, he2⟩ : ∃ e, e = errB q2 := ⟨_, rfl⟩
  rw [← hq1, ← hg1, ← he1] at H1
  rw [← hq2, ← hg2, ← he2] at H2
  rw [← hq3] at HA
  rw [← hq1, ← hq2, ← hq3, ← hg1, ← hg2] at hr'
  clear HH hc h hI hM nI nM hx hr hB0 hbx hq1 hq2 hq3 hg1 hg2
  by_cases hz : c = 0
  · subst hz
    rw [if_pos rfl] at hr'
    cases q1
    · have : e1 = 5 := he1
      subst this
      clear he1
      rw [if_neg (by simp)] at hr'
      simp only [Prod.mk.injEq] at hr'
      obtain ⟨rfl, rfl, rfl⟩ := hr'
      clear he2
      go_enter Try.func24, Try.ntmps24
      go_wp2_with (first
        | (go_at_call 38; refine HC.out.mono ?_; rintro e w1 ⟨rfl, hb1⟩; have HB1 := Lib.hid (HB0.out.trans (hb1.mono HB0.out.size)); obtain ⟨y0, y1, y2, y3, y4, y5⟩ := blk6 (block_kept HBX.out hb1); have BX1 := Lib.hid (block_kept HBX.out hb1); clear hb1)
        | (go_at_call 12; refine (H2.out _ HB2.out).mono ?_; rintro e w3 ⟨rfl, hb3⟩; have HB3 := Lib.hid (HB2.out.trans (hb3.mono HB2.out.size)); clear hb3)
        | (go_at_call 12; refine (H1.out _ HB1.out).mono ?_; rintro e w2 ⟨rfl, hb2⟩; have HB2 := Lib.hid (HB1.out.trans (hb2.mono HB1.out.size)); obtain ⟨z0, z1, z2, z3, z4, z5⟩ := blk6 (block_kept BX1.out hb2); clear hb2))
      go_ret3
      exact ⟨rfl, HB3.out⟩
    · have : e1 = 0 := he1
      subst this
      clear he1
      cases q2
      · have : e2 = 5 := he2
        subst this
        clear he2
        rw [if_neg (by simp)] at hr'
        simp only [Prod.mk.injEq] at hr'
        obtain ⟨rfl, rfl, rfl⟩ := hr'
        go_enter Try.func24, Try.ntmps24
        go_wp2_with (first
          | (go_at_call 38; refine HC.out.mono ?_; rintro e w1 ⟨rfl, hb1⟩; have HB1 := Lib.hid (HB0.out.trans (hb1.mono HB0.out.size)); obtain ⟨y0, y1, y2, y3, y4, y5⟩ := blk6 (block_kept HBX.out hb1); have BX1 := Lib.hid (block_kept HBX.out hb1); clear hb1)
          | (go_at_call 12; refine (H2.out _ HB2.out).mono ?_; rintro e w3 ⟨rfl, hb3⟩; have HB3 := Lib.hid (HB2.out.trans (hb3.mono HB2.out.size)); clear hb3)
          | (go_at_call 12; refine (H1.out _ HB1.out).mono ?_; rintro e w2 ⟨rfl, hb2⟩; have HB2 := Lib.hid (HB1.out.trans (hb2.mono HB1.out.size)); obtain ⟨z0, z1, z2, z3, z4, z5⟩ := blk6 (block_kept BX1.out hb2); clear hb2))
        go_ret3
        exact ⟨rfl, HB3.out⟩
      · have : e2 = 0 := he2
        subst this
        clear he2
        cases q3
        · rw [if_neg (by simp)] at hr'
          simp only [Prod.mk.injEq] at hr'
          obtain ⟨rfl, rfl, rfl⟩ := hr'
          go_enter Try.func24, Try.ntmps24
          go_wp2_with (first
            | (go_at_call 38; refine HC.out.mono ?_; rintro e w1 ⟨rfl, hb1⟩; have HB1 := Lib.hid (HB0.out.trans (hb1.mono HB0.out.size)); obtain ⟨y0, y1, y2, y3, y4, y5⟩ := blk6 (block_kept HBX.out hb1); have BX1 := Lib.hid (block_kept HBX.out hb1); clear hb1)
            | (go_at_call 19; refine (HA.out _ HB3.out).mono ?_; rintro e w4 ⟨rfl, hb4⟩; have HB4 := Lib.hid (HB3.out.trans (hb4.mono HB3.out.size)); clear hb4)
            | (go_at_call 12; refine (H2.out _ HB2.out).mono ?_; rintro e w3 ⟨rfl, hb3⟩; have HB3 := Lib.hid (HB2.out.trans (hb3.mono HB2.out.size)); obtain ⟨v0, v1, v2, v3, v4, v5⟩ := blk6 (block_kept BX2.out hb3); clear hb3)
            | (go_at_call 12; refine (H1.out _ HB1.out).mono ?_; rintro e w2 ⟨rfl, hb2⟩; have HB2 := Lib.hid (HB1.out.trans (hb2.mono HB1.out.size)); obtain ⟨z0, z1, z2, z3, z4, z5⟩ := blk6 (block_kept BX1.out hb2); have BX2 := Lib.hid (block_kept BX1.out hb2); clear hb2))
          go_ret3
          exact ⟨rfl, HB4.out⟩
        · rw [if_pos (by simp)] at hr'
          simp only [Prod.mk.injEq] at hr'
          obtain ⟨rfl, rfl, rfl⟩ := hr'
          go_enter Try.func24, Try.ntmps24
          go_wp2_with (first
            | (go_at_call 38; refine HC.out.mono ?_; rintro e w1 ⟨rfl, hb1⟩; have HB1 := Lib.hid (HB0.out.trans (hb1.mono HB0.out.size)); obtain ⟨y0, y1, y2, y3, y4, y5⟩ := blk6 (block_kept HBX.out hb1); have BX1 := Lib.hid (block_kept HBX.out hb1); clear hb1)
            | (go_at_call 19; refine (HA.out _ HB3.out).mono ?_; rintro e w4 ⟨rfl, hb4⟩; have HB4 := Lib.hid (HB3.out.trans (hb4.mono HB3.out.size)); clear hb4)
            | (go_at_call 12; refine (H2.out _ HB2.out).mono ?_; rintro e w3 ⟨rfl, hb3⟩; have HB3 := Lib.hid (HB2.out.trans (hb3.mono HB2.out.size)); obtain ⟨v0, v1, v2, v3, v4, v5⟩ := blk6 (block_kept BX2.out hb3); clear hb3)
            | (go_at_call 12; refine (H1.out _ HB1.out).mono ?_; rintro e w2 ⟨rfl, hb2⟩; have HB2 := Lib.hid (HB1.out.trans (hb2.mono HB1.out.size)); obtain ⟨z0, z1, z2, z3, z4, z5⟩ := blk6 (block_kept BX1.out hb2); have BX2 := Lib.hid (block_kept BX1.out hb2); clear hb2))
          go_ret3
          exact ⟨rfl, HB4.out⟩
  · rw [if_neg hz] at hr'
    simp only [Prod.mk.injEq] at hr'
    obtain ⟨rfl, rfl, rfl⟩ := hr'
    have hb : (r2 != 0) = true := by simpa using hz
    clear he1 he2
    go_enter Try.func24, Try.ntmps24
    go_wp2_with (go_at_call 38; refine HC.out.mono ?_; rintro e w1 ⟨rfl, hb1⟩; have HB1 := Lib.hid (HB0.out.trans (hb1.mono HB0.out.size)); clear hb1)
    go_ret3
    exact ⟨rfl, HB1.out⟩

def localB (r : Int × Int × Int) : Bool := decide (r.2.2 = 0) && decide (r.1 = r.2.1)
set_option maxRecDepth 100000 in
set_option maxHeartbeats 2000000 in
theorem local_any (w : World) (p : Option Addr) (n : Int) (I : List (ByteArray × Unit)) (M : List (ByteArray × Int)) (x : Tr) (h : RosR w p n I M) (hI : asc I) (hM : asc M) (nI : I.length ≤ 1000) (nM : M.length ≤ 1000) (hx : Sm x) {b : Bool} (hb : Hid (b = localB (routeV I M x))) :
    Calls Try.prog 27 #[.pointer p, .agg #[.int .i64 x.n, .string x.b, .string x.s, .string x.i, .int .i64 x.q, .int .i64 x.p]] w fun e w' => e = .returned (.bool b) ∧ Below w.heap.size w w' := by
  have hB0 : Below w.heap.size w (w.alloc (.cells #[.int .i64 x.n, .string x.b, .string x.s, .string x.i, .int .i64 x.q, .int .i64 x.p] 50)) := (Below.refl _ _).alloc (Nat.le_refl _) _
  have hbx := block_new w (.cells #[.int .i64 x.n, .string x.b, .string x.s, .string x.i, .int .i64 x.q, .int .i64 x.p] 50)
  obtain ⟨⟨r0, r1, r2⟩, hr⟩ : ∃ r, r = routeV I M x := ⟨_, rfl⟩
  have HR := Lib.hid (route_any (w.alloc (.cells #[.int .i64 x.n, .string x.b, .string x.s, .string x.i, .int .i64 x.q, .int .i64 x.p] 50)) p n I M x (h.below hB0) hI hM nI nM hx (Lib.hid hr))
  have hb' := hb.out
  rw [← hr] at hb'
  unfold localB at hb'
  simp only at hb'
  have HB0 := Lib.hid hB0
  obtain ⟨x0, x1, x2, x3, x4, x5⟩ := blk6 hbx
  clear hb h hI hM nI nM hx hr hB0 hbx
  by_cases hz : r2 = 0
  · have e1 : (r2 == 0) = true := by simpa using hz
    have HX : Hid (b = decide (r0 = r1)) := by show _ = _; rw [hb', decide_eq_true hz]; rfl
    clear hb' hz
    by_cases hz2 : r0 = r1
    · have e2 : (r0 == r1) = true := by simpa using hz2
      have HY : Hid (b = true) := by show _ = _; rw [HX.out]; exact decide_eq_true hz2
      clear hz2 HX
      go_enter Try.func27, Try.ntmps27
      go_wp2_with (go_at_call 24; refine HR.out.mono ?_; rintro e w1 ⟨rfl, hb1⟩)
      go_ret
      rw [HY.out]
      exact ⟨rfl, HB0.out.trans (hb1.mono HB0.out.size)⟩
    · have e2 : (r0 == r1) = false := by simpa using hz2
      have HY : Hid (b = false) := by show _ = _; rw [HX.out]; exact decide_eq_false hz2
      clear hz2 HX
      go_enter Try.func27, Try.ntmps27
      go_wp2_with (go_at_call 24; refine HR.out.mono ?_; rintro e w1 ⟨rfl, hb1⟩)
      go_ret
      rw [HY.out]
      exact ⟨rfl, HB0.out.trans (hb1.mono HB0.out.size)⟩
  · have e1 : (r2 == 0) = false := by simpa using hz
    have HY : Hid (b = false) := by show _ = _; rw [hb', decide_eq_false hz]; rfl
    clear hb' hz
    go_enter Try.func27, Try.ntmps27
    go_wp2_with (go_at_call 24; refine HR.out.mono ?_; rintro e w1 ⟨rfl, hb1⟩)
    go_ret
    rw [HY.out]
    exact ⟨rfl, HB0.out.trans (hb1.mono HB0.out.size)⟩
end Go.Proofs.Ytkoihpfgleboiaa.Ro
