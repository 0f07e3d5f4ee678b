/-
  The contract of the laws' own 'known': the chapter's examples come out true. Conditions: none.
-/
import Derived.Test.YtjnohdkpkbiclaaParse
namespace Go.Proofs.Ytjnohdkpkbiclaa
open Go.RowKit

def wants (i : Nat) : Int := if i = 0 then -4 else if i = 1 then -3 else if i = 2 then -3 else -4
theorem known_div (i : Nat) (hi : i < 4) (h l er : Int) (hs : DivSpec (wv (-1) 18446744073709551609) 2 (i : Int) h l er) : er = 0 ∧ WOk h l ∧ wv h l = wants i := by
  obtain ⟨q, n, hq, hn, hsg⟩ := hs
  have e1 : wv (-1) 18446744073709551609 = -7 := by decide
  rw [e1] at hq hn hsg
  have e2 : ((-7 : Int).natAbs : Int) = 7 := by decide
  have e3 : ((2 : Int).natAbs : Int) = 2 := by decide
  rw [e2, e3] at hq hn
  have e4 : (7 : Int) / 2 = 3 := by decide
  have e5 : (7 : Int) % 2 = 1 := by decide
  rw [e4] at hq hn
  rw [e5] at hn
  have e6 : (!(decide ((-7 : Int) < 0) == decide ((2 : Int) < 0))) = true := by decide
  rw [e6] at hn hsg
  have hb : n = - wants i := by
    rcases (by omega : i = 0 ∨ i = 1 ∨ i = 2 ∨ i = 3) with rfl | rfl | rfl | rfl
    · rw [hn]; simp [awayB, wants]
    · rw [hn]; simp [awayB, wants]
    · rw [hn]; simp [awayB, wants]
    · rw [hn]; simp [awayB, wants]; omega
  have hw : -4 ≤ wants i ∧ wants i ≤ -3 := by unfold wants; split <;> (try split) <;> (try split) <;> omega
  rw [hb] at hsg
  unfold Signed at hsg
  simp only [if_true] at hsg
  rcases hsg with ⟨_, _, h3, h4, h5⟩ | ⟨h1, _⟩
  · exact ⟨h3, h4, by omega⟩
  · omega
theorem known_text : mkStr (textOf (wv (-1) 0)) = { data := #[45, 49, 56, 52, 52, 54, 55, 52, 52, 48, 55, 51, 55, 48, 57, 53, 53, 49, 54, 49, 54] } := by decide +kernel
theorem known_parse (h l er : Int) (hs : ParseSpec (sb { data := #[45, 48] }) h l er) : er = 3 := by
  rcases hs with ⟨_, h, _⟩ | ⟨_, h, _⟩
  · exact h
  · exact absurd ⟨by decide +kernel, by decide +kernel⟩ h

set_option maxRecDepth 100000 in
set_option maxHeartbeats 2000000 in
theorem known_any (w : World) : Calls Try.prog 14 #[] w fun e w' => e = .returned (.bool true) ∧ Below w.heap.size w w' := by
  go_enter Try.func14, Try.ntmps14
  go_wp2_with fail
  obtain ⟨W0, hW0⟩ : ∃ W0, W0 = w.alloc (.cells #[.int .i64 (-4), .int .i64 (-3), .int .i64 (-3), .int .i64 (-4)] 67) := ⟨_, rfl⟩
  rw [← hW0]
  have j0 : Hid (W0.heap[w.heap.size]? = some (.cells #[.int .i64 (-4), .int .i64 (-3), .int .i64 (-3), .int .i64 (-4)] 67 (0, 0)) ∧ Below w.heap.size w W0) := by
    rw [hW0]; exact ⟨block_new _ _, (Below.refl _ _).alloc (Nat.le_refl _) _⟩
  clear hW0
  go_loopg [2] 4 (fun g si wx => ∃ k : Nat, g = 4 - k ∧ k ≤ 4 ∧ si = .int .i64 (k : Int) ∧ Hid (wx.heap[w.heap.size]? = some (.cells #[.int .i64 (-4), .int .i64 (-3), .int .i64 (-3), .int .i64 (-4)] 67 (0, 0)) ∧ Below w.heap.size w wx))
  case atStart => exact ⟨0, rfl, by decide, rfl, j0.out⟩
  case round =>
    obtain ⟨k, rfl, hk, rfl, hinv⟩ := hrel
    by_cases hlt : k < 4
    · go_wp2_with fail
      refine (of_any _ (-7) (-1) 18446744073709551609 (by decide) (by decide) (by decide) (by decide)).mono ?_
      rintro e w1 ⟨rfl, b1⟩
      have B1 := Lib.hid b1
      clear b1
      go_wp2_with fail
      refine (divide_good _ (-1) 18446744073709551609 2 k ⟨by decide, by decide, by decide, by decide⟩ (by decide) (by decide) (by decide) (by omega) (by omega)).mono ?_
      rintro e w2 ⟨h, l, er, rfl, hs, b2⟩
      have kd := known_div k hlt h l er hs.out
      obtain ⟨rfl, hok, hw⟩ := kd
      have B2 := Lib.hid b2
      have HOK := Lib.hid hok
      have HW := Lib.hid hw
      clear b2 hok hw hs
      go_wp2_with fail
      have hwb : -4 ≤ wants k ∧ wants k ≤ -3 := by unfold wants; split <;> (try split) <;> (try split) <;> omega
      refine (int_yes _ h l HOK.out (by rw [HW.out]; omega) (by rw [HW.out]; omega)).mono ?_
      rw [HW.out]
      rintro e w3 ⟨rfl, b3⟩
      have hbw : Below w.heap.size w w3 := by
        have g1 := hinv.out.2.trans (B1.out.mono hinv.out.2.size)
        have g2 := g1.trans (B2.out.mono g1.size)
        exact (g2.alloc g2.size _).trans (b3.mono (by simp only [World.size_alloc]; have := g2.size; omega))
      have kA := block_kept (block_old (block_kept (block_kept hinv.out.1 B1.out) B2.out) _) b3
      have hA : ∀ i : Nat, w3.cell? ⟨w.heap.size, i, none⟩ = (#[Value.int .i64 (-4), .int .i64 (-3), .int .i64 (-3), .int .i64 (-4)])[i]? := fun i => cell_of_row _ _ _ _ _ _ kA
      have HA := Lib.hid hA
      have KA := Lib.hid kA
      have HBW := Lib.hid hbw
      clear kA hA hbw b3
      rcases (by omega : k = 0 ∨ k = 1 ∨ k = 2 ∨ k = 3) with rfl | rfl | rfl | rfl
      · have hc : w3.cell? ⟨w.heap.size, 0, none⟩ = some (.int .i64 (-4)) := HA.out 0
        have hwa : wants 0 = -4 := rfl
        go_wp2_with fail
        go_roundg 3
        case measure => omega
        case rel => exact ⟨1, rfl, by decide, rfl, KA.out, HBW.out⟩
      · have hc : w3.cell? ⟨w.heap.size, 1, none⟩ = some (.int .i64 (-3)) := HA.out 1
        have hwa : wants 1 = -3 := rfl
        go_wp2_with fail
        go_roundg 2
        case measure => omega
        case rel => exact ⟨2, rfl, by decide, rfl, KA.out, HBW.out⟩
      · have hc : w3.cell? ⟨w.heap.size, 2, none⟩ = some (.int .i64 (-3)) := HA.out 2
        have hwa : wants 2 = -3 := rfl
        go_wp2_with fail
        go_roundg 1
        case measure => omega
        case rel => exact ⟨3, rfl, by decide, rfl, KA.out, HBW.out⟩
      · have hc : w3.cell? ⟨w.heap.size, 3, none⟩ = some (.int .i64 (-4)) := HA.out 3
        have hwa : wants 3 = -4 := rfl
        go_wp2_with fail
        go_roundg 0
        case measure => omega
        case rel => exact ⟨4, rfl, by decide, rfl, KA.out, HBW.out⟩
    · go_wp2_with fail
      refine (parse_any _ { data := #[45, 48] } (by decide)).mono ?_
      rintro e w1 ⟨h, l, er, rfl, hs, b1⟩
      have he := known_parse h l er hs.out
      subst he
      have B1 := Lib.hid b1
      clear b1 hs
      go_wp2_with fail
      refine (text_any _ (-1) 0 ⟨by decide, by decide, by decide, by decide⟩).mono ?_
      rw [known_text]
      rintro e w2 ⟨rfl, b2⟩
      have B2 := Lib.hid b2
      clear b2
      go_wp2_with fail
      go_ret
      have g1 := hinv.out.2.trans (B1.out.mono hinv.out.2.size)
      exact ⟨ret_bool (by decide), (g1.alloc g1.size _).trans (B2.out.mono (by simp only [World.size_alloc]; have := g1.size; omega))⟩
end Go.Proofs.Ytjnohdkpkbiclaa
