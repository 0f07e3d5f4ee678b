/-
  The contracts of a nil writer's Wide and Text; the law's fixed question answers true. Conditions: none.
-/
import Derived.Test.YtmicmldhjmadcaaORWd2
namespace Go.Proofs.Ytmicmldhjmadcaa.Oc
open Go.RowKit

set_option maxRecDepth 100000 in
theorem wide_nil (w : World) (hi lo : Int) (h1 : -9223372036854775808 ≤ hi) (h2 : hi < 9223372036854775808) : Calls Try.prog 22 #[.pointer none, wideV hi lo] w fun e w' => e = .returned (.pointer none) ∧ Below w.heap.size w w' := by
  have HB : Hid (Below w.heap.size w (w.alloc (wideO hi lo))) := (Below.refl _ _).alloc (Nat.le_refl _) _
  have HA := Lib.hid (block_new w (wideO hi lo))
  have HN := Lib.hid (number_nil (w.alloc (wideO hi lo)) hi h1 h2)
  unfold wideO wideV at *
  go_enter Try.func22, Try.ntmps22
  go_wp2_with (go_at_call 21; refine HN.out.mono ?_; rintro e w1 ⟨rfl, hb1⟩; have HK := Lib.hid (block_kept HA.out hb1); have H1 := Lib.hid (HB.out.trans (hb1.mono HB.out.size)); clear hb1)
  have HI : Hid (Below w.heap.size w w1 ∧ w1.heap[w.heap.size]? = some (wideO hi lo)) := ⟨H1.out, HK.out⟩
  go_loopg [5] 8 (fun k s5 wx => ∃ j : Int, j = 8 * (k : Int) - 8 ∧ k ≤ 8 ∧ s5 = .int .i64 j ∧ Hid (Below w.heap.size w wx ∧ wx.heap[w.heap.size]? = some (wideO hi lo)))
  case atStart => exact ⟨_, rfl, Nat.le_refl _, rfl, HI⟩
  case round =>
    clear HI
    obtain ⟨j, hj, hk, rfl, hinv⟩ := hrel
    obtain ⟨hbel, hX⟩ := hinv.out
    obtain ⟨⟨c1, c2⟩, _⟩ := wide_block hX
    have HJ := Lib.hid hj
    have HBL := Lib.hid hbel
    have HX := Lib.hid hX
    clear hinv hbel hX
    cases gk with
    | zero =>
      have t1 : ¬ 0 ≤ j := by omega
      clear hj
      go_wp2
      go_ret
      exact ⟨rfl, HBL.out⟩
    | succ k =>
      have t1 : 0 ≤ j := by omega
      have t2 : j ≤ 56 := by omega
      clear hj
      go_wp2_with (go_at_call 25; refine (byte_nil wr _).mono ?_; rintro e w2 ⟨rfl, hb2⟩; have HB2 := Lib.hid hb2; clear hb2)
      go_roundg k
      case measure => omega
      case rel => exact ⟨j - 8, by have := HJ.out; omega, by omega, by go_num, HBL.out.trans (HB2.out.mono HBL.out.size), block_kept HX.out HB2.out⟩
set_option maxRecDepth 100000 in
theorem text_nil (w : World) (g : Nat) (s t : ByteArray) (hg : w.heap[g]? = some (.cells #[.string s, .string t] 9 (0, 0))) (hs : s.size ≤ 1000) (ht : t.size ≤ 1000) :
    Calls Try.prog 23 #[.pointer none, .slice (some ⟨g, 0, none⟩) 2 2] w fun e w' => e = .returned (.pointer none) ∧ Below w.heap.size w w' := by
  obtain ⟨m, hm⟩ : ∃ m, m = s.size := ⟨_, rfl⟩
  obtain ⟨n, hn⟩ : ∃ n, n = t.size := ⟨_, rfl⟩
  have em : s.size = m := hm.symm
  have en : t.size = n := hn.symm
  have hm2 : m ≤ 1000 := by omega
  have hn2 : n ≤ 1000 := by omega
  have HG := Lib.hid hg
  have HI : Hid (Below w.heap.size w w) := Below.refl _ _
  clear hg hs ht hm hn
  go_enter Try.func23, Try.ntmps23
  go_wp2
  go_loopg [9] 2 (fun k s9 wx => ∃ i : Nat, k = 2 - i ∧ i ≤ 2 ∧ s9 = .int .i64 (i : Int) ∧ Hid (Below w.heap.size w wx))
  case atStart => exact ⟨0, rfl, by omega, rfl, HI⟩
  case round =>
    clear HI
    obtain ⟨i, rfl, hi, rfl, hinv⟩ := hrel
    obtain ⟨⟨c1, c2⟩, _⟩ := block_cell2 (block_kept HG.out hinv.out)
    rcases (by omega : i = 0 ∨ i = 1 ∨ i = 2) with rfl | rfl | rfl
    · go_wp2_with (first
        | (go_at_call 50; refine (takes_nil w2 _).mono ?_; rintro e w3 ⟨rfl, rfl⟩)
        | (go_at_call 20; refine (count_nil wr _ (by omega) (by omega)).mono ?_; rintro e w2 ⟨rfl, hb2⟩; have HB2 := Lib.hid (hinv.out.trans (hb2.mono hinv.out.size)); clear hb2))
      go_roundg 1
      case measure => omega
      case rel => exact ⟨1, rfl, by omega, by go_num, HB2⟩
    · go_wp2_with (first
        | (go_at_call 50; refine (takes_nil w2 _).mono ?_; rintro e w3 ⟨rfl, rfl⟩)
        | (go_at_call 20; refine (count_nil wr _ (by omega) (by omega)).mono ?_; rintro e w2 ⟨rfl, hb2⟩; have HB2 := Lib.hid (hinv.out.trans (hb2.mono hinv.out.size)); clear hb2))
      go_roundg 0
      case measure => omega
      case rel => exact ⟨2, rfl, by omega, by go_num, HB2⟩
    · go_wp2
      go_ret
      exact ⟨rfl, hinv.out⟩
end Go.Proofs.Ytmicmldhjmadcaa.Oc
