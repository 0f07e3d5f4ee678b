/-
  The law NoteOnce. Conditions: the table of kinds lies as the program's text lays it.
-/
import Derived.Test.YteahloddjekakaaDoorNDec
import Derived.Test.YteahloddjekakaaDoorNM19
import Derived.Test.YteahloddjekakaaDoorNM22
namespace Go.Proofs.YteahloddjekakaaDoor.Nt
open Go.RowKit Td

theorem once_eq {la lb : List Int} {x y : Nt} (ha : Oc.bok la) (hb : Oc.bok lb) (hx : NoteR 0 la x 0 []) (hy : NoteR 0 lb y 0 []) : sameN x y (six 0 la).2.1 (six 0 lb).2.1 = decide (la = lb) := by
  by_cases h : la = lb
  · subst h
    have e := note_fun rfl hx hy
    subst e
    rw [decide_eq_true rfl]
    exact same_refl _ _
  · rw [decide_eq_false h, ← Bool.not_eq_true]
    intro hs
    obtain ⟨h1, h2⟩ := same_true hs
    obtain ⟨k1, _, k3⟩ := bwd ha hx
    obtain ⟨j1, _, j3⟩ := bwd hb hy
    subst h1
    have e : mK 0 la = mK 0 lb := by omega
    rw [← e, ← h2] at j3
    exact h (k3.trans j3.symm)
theorem slice_to' (A : Option Addr) (n cap q : Nat) (h : q ≤ cap) : ∀ W : World, (Instr.slice 45 (.slice A n cap) none (some (.int .i64 (q : Int))) none).run Tryd.prog W = .ok (.slice A q cap) W := Oc.slice_to A n cap q h
set_option maxRecDepth 100000 in
set_option maxHeartbeats 16000000 in
theorem law_once (w : World) (hk : KinC w) (A B : Option Addr) (n c n' c' m m' : Nat) (la lb : List Int) (hA : Oc.BAt w (.slice A m c) la) (hB : Oc.BAt w (.slice B m' c') lb) (hla : Oc.bok la ∧ la.length ≤ 300) (hlb : Oc.bok lb ∧ lb.length ≤ 300)
    (hm : min (n : Int) 300 = (m : Int)) (hm' : min (n' : Int) 300 = (m' : Int)) (hmc : m ≤ c) (hmc' : m' ≤ c') :
    Calls Tryd.prog 6 #[.slice A n c, .slice B n' c'] w fun e w' => e = .returned (.bool true) ∧ Below w.heap.size w w' := by
  have hs1 := slice_to' A n c m hmc
  have hs2 := slice_to' B n' c' m' hmc'
  have hi1 : (if (300 : Int) < (n : Int) then (300 : Int) else (n : Int)) = (m : Int) := by split <;> omega
  have hi2 : (if (300 : Int) < (n' : Int) then (300 : Int) else (n' : Int)) = (m' : Int) := by split <;> omega
  have HK : Hid (∀ W, Below w.heap.size w W → KinC W) := fun W hW => hk.kept hW
  have HD1 : Hid (∀ W, Below w.heap.size w W → Calls Tryd.prog 18 #[.slice A m c] W fun e w' => DecR la e w' ∧ Below W.heap.size W w') := fun W hW => decode_any W (hk.kept hW) A m c la (hA.kept hW) hla.1 (by omega)
  have HD2 : Hid (∀ W, Below w.heap.size w W → Calls Tryd.prog 18 #[.slice B m' c'] W fun e w' => DecR lb e w' ∧ Below W.heap.size W w') := fun W hW => decode_any W (hk.kept hW) B m' c' lb (hB.kept hW) hlb.1 (by omega)
  have HSA : Hid (∀ W, Below w.heap.size w W → Calls Tryd.prog 19 #[.slice A m c, .slice B m' c'] W fun e w' => e = .returned (.bool (decide (la = lb))) ∧ Below W.heap.size W w') := fun W hW => bsame_any W _ _ la lb (hA.kept hW) (hB.kept hW) (by omega) (by omega)
  have HKN : Hid (∀ W, Below w.heap.size w W → Calls Tryd.prog 9 #[] W fun e w' => e = .returned (.bool true) ∧ Below W.heap.size W w') := fun W hW => known_any W (hk.kept hW)
  have HBK : Hid (Oc.bok la ∧ Oc.bok lb) := ⟨hla.1, hlb.1⟩
  clear hA hB hla hlb hk hmc hmc'
  go_enter Tryd.func6, Tryd.ntmps6
  go_upto_region 1 with fail
  go_quiet (fail)
  have HW0 := Lib.hid (Oc.below_drewN (Below.refl w.heap.size w) nq)
  clear hs1 hs2 hi1 hi2 hm hm'
  generalize w.drewN nq = W0 at HW0 ⊢
  go_upto_region 3 with (go_at_call 18; (with_reducible refine (HD1.out _ HW0.out).mono ?_); rintro e w1 ⟨hd, hb⟩; have HB1 := Lib.hid (HW0.out.trans (hb.mono HW0.out.size)); clear hb; rcases hd with ⟨er, he, rfl, _⟩ | ⟨A1, n1, c1, x, rfl, hn1, hr1, hx1, hc1⟩)
  · have HE := Lib.hid he
    have hbn : Below w.heap.size w (w1.alloc (.cells #[.int .i64 0, .int .i64 0, .int .i64 0, .int .i64 0, .string { data := #[] }, .string { data := #[] }, .string { data := #[] }, .int .i64 0, .int .i64 0, .string { data := #[] }, .int .i64 0, .slice none 0 0, .int .i64 0, .int .u64 0] 33)) := HB1.out.alloc HB1.out.size _
    have E5 := block_new w1 (.cells #[.int .i64 0, .int .i64 0, .int .i64 0, .int .i64 0, .string { data := #[] }, .string { data := #[] }, .string { data := #[] }, .int .i64 0, .int .i64 0, .string { data := #[] }, .int .i64 0, .slice none 0 0, .int .i64 0, .int .u64 0] 33)
    have HE5 := Lib.hid E5
    have HB2 := Lib.hid hbn
    obtain ⟨b5, hb5⟩ : ∃ b, b = w1.heap.size := ⟨_, rfl⟩
    rw [← hb5] at HE5 ⊢
    clear E5 hbn hb5
    generalize w1.alloc _ = W2 at HE5 HB2 ⊢
    go_upto_region 4 with (go_at_call 18; (with_reducible refine (HD2.out _ HB2.out).mono ?_); rintro e w3 ⟨hd, hb⟩; have HB3 := Lib.hid (HB2.out.trans (hb.mono HB2.out.size)); have HBB := Lib.hid hb; clear hb; rcases hd with ⟨er', he', rfl, _⟩ | ⟨A3, n3, c3, y, rfl, hn3, hr3, hy3, hc3⟩)
    · have hbn : Below w3.heap.size w3 (w3.alloc (.cells #[.int .i64 0, .int .i64 0, .int .i64 0, .int .i64 0, .string { data := #[] }, .string { data := #[] }, .string { data := #[] }, .int .i64 0, .int .i64 0, .string { data := #[] }, .int .i64 0, .slice none 0 0, .int .i64 0, .int .u64 0] 33)) := (Below.refl _ _).alloc (Nat.le_refl _) _
      have E7 := block_new w3 (.cells #[.int .i64 0, .int .i64 0, .int .i64 0, .int .i64 0, .string { data := #[] }, .string { data := #[] }, .string { data := #[] }, .int .i64 0, .int .i64 0, .string { data := #[] }, .int .i64 0, .slice none 0 0, .int .i64 0, .int .u64 0] 33)
      have E5 := block_kept HE5.out (HBB.out.trans (hbn.mono HBB.out.size))
      have HB4 := Lib.hid (HB3.out.trans (hbn.mono HB3.out.size))
      obtain ⟨b7, hb7⟩ : ∃ b, b = w3.heap.size := ⟨_, rfl⟩
      rw [← hb7] at E7 ⊢
      clear hbn hb7
      generalize w3.alloc _ = W4 at E7 E5 HB4 ⊢
      have HE5b := Lib.hid E5
      have HE7b := Lib.hid E7
      clear E5 E7
      go_wp2_with (go_at_call 9; (with_reducible refine (HKN.out _ HB4.out).mono ?_); rintro e w5 ⟨rfl, hb⟩; have HB5 := Lib.hid (HB4.out.trans (hb.mono HB4.out.size)); have v0 := (blk14 (block_kept HE5b.out hb)).1.1; have u0 := (blk14 (block_kept HE7b.out hb)).1.1; clear hb)
      go_ret
      exact ⟨rfl, HB5.out⟩
    · have hbn : Below w3.heap.size w3 (w3.alloc (.cells #[.int .i64 y.k, .int .i64 y.p, .int .i64 y.d, .int .i64 y.t.n, .string y.t.b, .string y.t.s, .string y.t.i, .int .i64 y.t.q, .int .i64 y.t.p, .string y.n, .int .i64 y.a, .slice A3 n3 c3, .int .i64 y.hi, .int .u64 y.lo] 33)) := (Below.refl _ _).alloc (Nat.le_refl _) _
      have E7 := block_new w3 (.cells #[.int .i64 y.k, .int .i64 y.p, .int .i64 y.d, .int .i64 y.t.n, .string y.t.b, .string y.t.s, .string y.t.i, .int .i64 y.t.q, .int .i64 y.t.p, .string y.n, .int .i64 y.a, .slice A3 n3 c3, .int .i64 y.hi, .int .u64 y.lo] 33)
      have E5 := block_kept HE5.out (HBB.out.trans (hbn.mono HBB.out.size))
      have HB4 := Lib.hid (HB3.out.trans (hbn.mono HB3.out.size))
      clear hr3 hy3 hn3 hc3
      obtain ⟨b7, hb7⟩ : ∃ b, b = w3.heap.size := ⟨_, rfl⟩
      rw [← hb7] at E7 ⊢
      clear hbn hb7
      generalize w3.alloc _ = W4 at E7 E5 HB4 ⊢
      have HE5b := Lib.hid E5
      have HE7b := Lib.hid E7
      clear E5 E7
      go_wp2_with (go_at_call 9; (with_reducible refine (HKN.out _ HB4.out).mono ?_); rintro e w5 ⟨rfl, hb⟩; have HB5 := Lib.hid (HB4.out.trans (hb.mono HB4.out.size)); have v0 := (blk14 (block_kept HE5b.out hb)).1.1; have u0 := (blk14 (block_kept HE7b.out hb)).1.1; clear hb)
      go_ret
      exact ⟨rfl, HB5.out⟩
  · have HX := Lib.hid hx1
    have HN1 := hn1
    have hbn : Below w.heap.size w (w1.alloc (.cells #[.int .i64 x.k, .int .i64 x.p, .int .i64 x.d, .int .i64 x.t.n, .string x.t.b, .string x.t.s, .string x.t.i, .int .i64 x.t.q, .int .i64 x.t.p, .string x.n, .int .i64 x.a, .slice A1 n1 c1, .int .i64 x.hi, .int .u64 x.lo] 33)) := HB1.out.alloc HB1.out.size _
    have E5 := block_new w1 (.cells #[.int .i64 x.k, .int .i64 x.p, .int .i64 x.d, .int .i64 x.t.n, .string x.t.b, .string x.t.s, .string x.t.i, .int .i64 x.t.q, .int .i64 x.t.p, .string x.n, .int .i64 x.a, .slice A1 n1 c1, .int .i64 x.hi, .int .u64 x.lo] 33)
    have HR1 : Hid (RR (w1.alloc (.cells #[.int .i64 x.k, .int .i64 x.p, .int .i64 x.d, .int .i64 x.t.n, .string x.t.b, .string x.t.s, .string x.t.i, .int .i64 x.t.q, .int .i64 x.t.p, .string x.n, .int .i64 x.a, .slice A1 n1 c1, .int .i64 x.hi, .int .u64 x.lo] 33)) A1 (six 0 la).2.1) := hr1.below ((Below.refl _ _).alloc (Nat.le_refl _) _)
    clear hr1 hx1 hn1 hc1
    have HE5 := Lib.hid E5
    have HB2 := Lib.hid hbn
    obtain ⟨b5, hb5⟩ : ∃ b, b = w1.heap.size := ⟨_, rfl⟩
    rw [← hb5] at HE5 ⊢
    clear E5 hbn hb5
    generalize w1.alloc _ = W2 at HE5 HB2 HR1 ⊢
    go_upto_region 4 with (go_at_call 18; (with_reducible refine (HD2.out _ HB2.out).mono ?_); rintro e w3 ⟨hd, hb⟩; have HB3 := Lib.hid (HB2.out.trans (hb.mono HB2.out.size)); have HBB := Lib.hid hb; clear hb; rcases hd with ⟨er', he', rfl, _⟩ | ⟨A3, n3, c3, y, rfl, hn3, hr3, hy3, hc3⟩)
    · have hbn : Below w3.heap.size w3 (w3.alloc (.cells #[.int .i64 0, .int .i64 0, .int .i64 0, .int .i64 0, .string { data := #[] }, .string { data := #[] }, .string { data := #[] }, .int .i64 0, .int .i64 0, .string { data := #[] }, .int .i64 0, .slice none 0 0, .int .i64 0, .int .u64 0] 33)) := (Below.refl _ _).alloc (Nat.le_refl _) _
      have E7 := block_new w3 (.cells #[.int .i64 0, .int .i64 0, .int .i64 0, .int .i64 0, .string { data := #[] }, .string { data := #[] }, .string { data := #[] }, .int .i64 0, .int .i64 0, .string { data := #[] }, .int .i64 0, .slice none 0 0, .int .i64 0, .int .u64 0] 33)
      have E5 := block_kept HE5.out (HBB.out.trans (hbn.mono HBB.out.size))
      have HB4 := Lib.hid (HB3.out.trans (hbn.mono HB3.out.size))
      obtain ⟨b7, hb7⟩ : ∃ b, b = w3.heap.size := ⟨_, rfl⟩
      rw [← hb7] at E7 ⊢
      clear hbn hb7
      generalize w3.alloc _ = W4 at E7 E5 HB4 ⊢
      have HE5b := Lib.hid E5
      have HE7b := Lib.hid E7
      clear E5 E7
      go_wp2_with (go_at_call 9; (with_reducible refine (HKN.out _ HB4.out).mono ?_); rintro e w5 ⟨rfl, hb⟩; have HB5 := Lib.hid (HB4.out.trans (hb.mono HB4.out.size)); have v0 := (blk14 (block_kept HE5b.out hb)).1.1; have u0 := (blk14 (block_kept HE7b.out hb)).1.1; clear hb)
      go_ret
      exact ⟨rfl, HB5.out⟩
    · have hbn : Below w3.heap.size w3 (w3.alloc (.cells #[.int .i64 y.k, .int .i64 y.p, .int .i64 y.d, .int .i64 y.t.n, .string y.t.b, .string y.t.s, .string y.t.i, .int .i64 y.t.q, .int .i64 y.t.p, .string y.n, .int .i64 y.a, .slice A3 n3 c3, .int .i64 y.hi, .int .u64 y.lo] 33)) := (Below.refl _ _).alloc (Nat.le_refl _) _
      have E7 := block_new w3 (.cells #[.int .i64 y.k, .int .i64 y.p, .int .i64 y.d, .int .i64 y.t.n, .string y.t.b, .string y.t.s, .string y.t.i, .int .i64 y.t.q, .int .i64 y.t.p, .string y.n, .int .i64 y.a, .slice A3 n3 c3, .int .i64 y.hi, .int .u64 y.lo] 33)
      have E5 := block_kept HE5.out (HBB.out.trans (hbn.mono HBB.out.size))
      have HB4 := Lib.hid (HB3.out.trans (hbn.mono HB3.out.size))
      have HR3 := Lib.hid (hr3.below hbn)
      have HR1b := Lib.hid (HR1.out.below (HBB.out.trans (hbn.mono HBB.out.size)))
      have HY := Lib.hid hy3
      have HN3 := hn3
      clear hr3 hy3 hn3 hc3
      obtain ⟨b7, hb7⟩ : ∃ b, b = w3.heap.size := ⟨_, rfl⟩
      rw [← hb7] at E7 ⊢
      clear hbn hb7
      generalize w3.alloc _ = W4 at E7 E5 HB4 HR3 HR1b ⊢
      have HE5b := Lib.hid E5
      have HE7b := Lib.hid E7
      clear E5 E7
      obtain ⟨r, hr⟩ : ∃ r, r = decide (la = lb) := ⟨_, rfl⟩
      have HRS : Hid (r = sameN x y (six 0 la).2.1 (six 0 lb).2.1) := by show _ = _; rw [hr]; exact (once_eq HBK.out.1 HBK.out.2 HX.out HY.out).symm
      have HSX : Hid (∀ W, Below w.heap.size w W → Calls Tryd.prog 19 #[.slice A m c, .slice B m' c'] W fun e w' => e = .returned (.bool r) ∧ Below W.heap.size W w') := by rw [hr]; exact HSA
      have hrr : (r == r) = true := by simp
      have h1k : n1 ≤ 1000 := by have h1 := HN1.out; have h2 := (six_sm 0 la).2; omega
      clear hr HSA HD1 HD2
      go_wp2_with (first
        | (go_at_call 9; (with_reducible refine (HKN.out _ HB4.out).mono ?_); rintro e w5 ⟨rfl, hb⟩; have HB5 := Lib.hid (HB4.out.trans (hb.mono HB4.out.size)); have HRa := Lib.hid (HR1b.out.below hb); have HRb := Lib.hid (HR3.out.below hb); obtain ⟨⟨v0, v1, v2, v3, v4, v5, v6⟩, v7, v8, v9, v10, v11, v12, v13⟩ := blk14 (block_kept HE5b.out hb); obtain ⟨⟨u0, u1, u2, u3, u4, u5, u6⟩, u7, u8, u9, u10, u11, u12, u13⟩ := blk14 (block_kept HE7b.out hb); clear hb)
        | (go_at_call 21; (with_reducible refine (equal_any w5 x y A1 A3 n1 c1 n3 c3 _ _ HRa HN1 HRb HN3 h1k HRS).mono ?_); rintro e w6 ⟨rfl, hb⟩; have HB6 := Lib.hid (HB5.out.trans (hb.mono HB5.out.size)); clear hb)
        | (go_at_call 19; (with_reducible refine (HSX.out _ HB6.out).mono ?_); rintro e w7 ⟨rfl, hb⟩; have HB7 := Lib.hid (HB6.out.trans (hb.mono HB6.out.size)); clear hb))
      go_ret
      exact ⟨rfl, HB7.out⟩
end Go.Proofs.YteahloddjekakaaDoor.Nt
