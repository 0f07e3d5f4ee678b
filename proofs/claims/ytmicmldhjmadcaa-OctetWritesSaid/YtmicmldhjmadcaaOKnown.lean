/-
  The law's fixed question answers true. Conditions: none.
-/
import Derived.Test.YtmicmldhjmadcaaONil
namespace Go.Proofs.Ytmicmldhjmadcaa.Oc
open Go.RowKit

/-- A new writer. -/
def wrO : Obj := .cells #[.int .i64 0, .slice none 0 0] 29 (0, 0)
theorem wr_new (w : World) : WrR (w.alloc wrO) w.heap.size 0 [] (.slice none 0 0) := ⟨block_new _ _, World.ownsRow_nil _ _ _ _, by simp⟩
theorem three_at (w : World) (x y z : Int) : BAt (w.alloc (.cells #[.int .u8 x, .int .u8 y, .int .u8 z] 5)) (.slice (some ⟨w.heap.size, 0, none⟩) 3 3) [x, y, z] := by
  refine ⟨_, 3, rfl, Nat.le_refl _, fun _ => ⟨w.heap.size, 0, rfl, by simp, fun i hi => ?_⟩⟩
  have hb := block_new w (.cells #[.int .u8 x, .int .u8 y, .int .u8 z] 5)
  have h3 : i = 0 ∨ i = 1 ∨ i = 2 := by simp at hi; omega
  rcases h3 with rfl | rfl | rfl <;> (simp only [World.cell?, Nat.zero_add]; rw [hb]; rfl)
theorem five_at (w : World) (a x y z c : Int) : BAt (w.alloc (.cells #[.int .u8 a, .int .u8 x, .int .u8 y, .int .u8 z, .int .u8 c] 5)) (.slice (some ⟨w.heap.size, 0, none⟩) 5 5) [a, x, y, z, c] := by
  refine ⟨_, 5, rfl, Nat.le_refl _, fun _ => ⟨w.heap.size, 0, rfl, by simp, fun i hi => ?_⟩⟩
  have hb := block_new w (.cells #[.int .u8 a, .int .u8 x, .int .u8 y, .int .u8 z, .int .u8 c] 5)
  have h3 : i = 0 ∨ i = 1 ∨ i = 2 ∨ i = 3 ∨ i = 4 := by simp at hi; omega
  rcases h3 with rfl | rfl | rfl | rfl | rfl <;> (simp only [World.cell?, Nat.zero_add]; rw [hb]; rfl)
theorem WrTo.to {b n0 : Nat} {v : Value} {w w' : World} {er er' : Int} {l l' : List Int} (h : WrTo b v w er' l' w') (hw : WrR w b er l v) (hn : n0 ≤ b) : ∃ v', WrR w' b er' l' v' ∧ Below n0 w w' := by
  obtain ⟨v', h1, h2⟩ := h
  exact ⟨v', h1, h2.below hw hn⟩
/-- A step of a writer that has made no mistake, told in full. -/
def Stp (n0 b : Nat) (w : World) (l : List Int) (w' : World) : Prop := ∃ v', WrR w' b 0 l v' ∧ Below n0 w w'
theorem kcount (w : World) (n0 b : Nat) (v : Value) (h : WrR w b 0 [] v) (hn : n0 ≤ b) : Calls Try.prog 20 #[.pointer (some ⟨b, 0, none⟩), .int .i64 300] w fun e w' => e = .returned (.pointer (some ⟨b, 0, none⟩)) ∧ Stp n0 b w [172, 2] w' :=
  (count_any w b 0 300 [] v h (by decide) (fun _ => by decide)).mono fun e w' h1 => ⟨h1.1, h1.2.to h hn⟩
theorem knumber (w : World) (n0 b : Nat) (v : Value) (l : List Int) (x : Int) (m : List Int) (h : WrR w b 0 l v) (hn : n0 ≤ b) (hl : l.length ≤ 100) (h1 : -1000 ≤ x) (h2 : x ≤ 1000) (hm : grp (fold x) = m) : Calls Try.prog 21 #[.pointer (some ⟨b, 0, none⟩), .int .i64 x] w fun e w' => e = .returned (.pointer (some ⟨b, 0, none⟩)) ∧ Stp n0 b w (l ++ m) w' :=
  (number_any w b 0 x l v h (by omega) (by omega) (fun _ => by have := (grp_len (fold x)).1; omega)).mono fun e w' h3 => ⟨h3.1, by have := h3.2.to h hn; rw [hm, addB_no] at this; exact this⟩
theorem bok_known : bok [172, 130, 0] := by intro x hx; simp at hx; omega
theorem rg_known : rg [172, 130, 0] = (3, 0, []) := by decide

set_option maxRecDepth 100000 in
set_option maxHeartbeats 4000000 in
theorem known_any (w : World) : Calls Try.prog 10 #[] w fun e w' => e = .returned (.bool true) ∧ Below w.heap.size w w' := by
  have HW := Lib.hid (wr_new w)
  have HB0 : Hid (Below w.heap.size w (w.alloc wrO)) := (Below.refl _ _).alloc (Nat.le_refl _) _
  have HC := Lib.hid (kcount _ w.heap.size w.heap.size _ HW.out (Nat.le_refl _))
  have HN (l : List Int) (x : Int) (m : List Int) (hl : l.length ≤ 100) (h1 : -1000 ≤ x) (h2 : x ≤ 1000) (hm : l ++ grp (fold x) = m) : Hid (∀ w1 v1, WrR w1 w.heap.size 0 l v1 → Calls Try.prog 21 #[.pointer (some ⟨w.heap.size, 0, none⟩), .int .i64 x] w1 fun e w' => e = .returned (.pointer (some ⟨w.heap.size, 0, none⟩)) ∧ Stp w.heap.size w.heap.size w1 m w') :=
    fun w1 v1 h => by subst hm; exact knumber w1 w.heap.size w.heap.size v1 l x _ h (Nat.le_refl _) hl h1 h2 rfl
  have HN1 := HN [172, 2] (-1) [172, 2, 1] (by decide) (by decide) (by decide) (by decide)
  have HN2 := HN [172, 2, 1] 1 [172, 2, 1, 2] (by decide) (by decide) (by decide) (by decide)
  have HN3 := HN [172, 2, 1, 2] (-64) [172, 2, 1, 2, 127] (by decide) (by decide) (by decide) (by decide)
  clear HN
  unfold wrO at HC HB0
  go_enter Try.func10, Try.ntmps10
  go_wp2_with (first
    | (go_at_call 19; refine (rest_any _ b 3 _ v7 HV7.out).mono ?_; rintro e w10 ⟨rfl, rfl⟩)
    | (go_at_call 18; refine (rdone_any _ b 3 _ v7 HV7.out).mono ?_; rintro e w9 ⟨rfl, rfl⟩)
    | (go_at_call 11; refine (same_eq _ _ _ [172, 2, 1, 2, 127] HD8.out (five_at w7 172 2 1 2 127) (by decide)).mono ?_; rintro e w8 ⟨rfl, hb8⟩; have HV7 := Lib.hid (HVR.out.below ((Below.refl _ _).alloc (Nat.le_refl _) _ |>.trans (hb8.mono (by simp)))); have HB8 := Lib.hid (HB7.out.trans (((Below.refl _ _).alloc HB7.out.size _).trans (hb8.mono (by have := HB7.out.size; simp; omega)))); clear hb8)
    | (go_at_call 13; refine (rcount_err _ b 1000000 [172, 130, 0] u HR6.out (by rw [rg_known]; decide) (by decide) (by decide)).mono ?_; rintro e w7 ⟨rfl, hr7⟩
       rw [rg_known] at hr7
       obtain ⟨v7, h7, hg7⟩ := hr7
       have HVR := Lib.hid h7
       have HB7 := Lib.hid (HB6.out.trans (below_of_grown hg7 hle HB6.out.size))
       have HD8 : Hid (BAt (w7.alloc (.cells #[.int .u8 172, .int .u8 2, .int .u8 1, .int .u8 2, .int .u8 127] 5)) (.slice A5 5 c5) [172, 2, 1, 2, 127]) :=
         ((BAt.of_own (l := [172, 2, 1, 2, 127]) HO5.out).kept (H56.out.trans (below_of_grown hg7 hle5 H56.out.size))).kept ((Below.refl _ _).alloc (Nat.le_refl _) _)
       clear h7 hg7)
    | (go_at_call 12; refine (read_any _ _ [172, 130, 0] (three_at w5 172 130 0) bok_known (by decide)).mono ?_; rintro e w6 ⟨b, u, rfl, hle', hr6, hb6⟩
       have HR6 := Lib.hid hr6
       have hle5 : w5.heap.size ≤ b := (by simp at hle'; omega)
       have H56 : Hid (Below w5.heap.size w5 w6) := ((Below.refl _ _).alloc (Nat.le_refl _) _).trans (hb6.mono (by simp))
       have hle : w.heap.size ≤ b := Nat.le_trans HB5.out.size hle5
       have HB6 := Lib.hid (HB5.out.trans (H56.out.mono HB5.out.size))
       clear hr6 hb6 hle')
    | (go_at_call 9; refine (wdone_any _ _ 0 _ v4 HV4.out).mono ?_; rintro e w5 ⟨A5, c5, rfl, ho5, hb5⟩; have HO5 := Lib.hid ho5; have HB5 := Lib.hid (HB4.out.trans (hb5.mono HB4.out.size)); clear ho5 hb5)
    | (go_at_call 21; refine (HN3.out _ _ HV3.out).mono ?_; rintro e w4 ⟨rfl, v4, hv4, hb4⟩; have HV4 := Lib.hid hv4; have HB4 := Lib.hid (HB3.out.trans hb4); clear hv4 hb4)
    | (go_at_call 21; refine (HN2.out _ _ HV2.out).mono ?_; rintro e w3 ⟨rfl, v3, hv3, hb3⟩; have HV3 := Lib.hid hv3; have HB3 := Lib.hid (HB2.out.trans hb3); clear hv3 hb3)
    | (go_at_call 21; refine (HN1.out _ _ HV1.out).mono ?_; rintro e w2 ⟨rfl, v2, hv2, hb2⟩; have HV2 := Lib.hid hv2; have HB2 := Lib.hid (HB1.out.trans hb2); clear hv2 hb2)
    | (go_at_call 20; refine HC.out.mono ?_; rintro e w1 ⟨rfl, v1, hv1, hb1⟩; have HV1 := Lib.hid hv1; have HB1 := Lib.hid (HB0.out.trans hb1); clear hv1 hb1))
  go_ret
  exact ⟨rfl, HB8.out⟩
end Go.Proofs.Ytmicmldhjmadcaa.Oc
