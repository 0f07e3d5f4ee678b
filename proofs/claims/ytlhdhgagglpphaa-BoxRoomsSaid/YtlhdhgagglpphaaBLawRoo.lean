/-
  The law BoxRooms answers true: its walk. Conditions: none.
-/
import Derived.Test.YtlhdhgagglpphaaBKnown
import Derived.Test.YtlhdhgagglpphaaBBoxS
namespace Go.Proofs.Ytlhdhgagglpphaa.Bx
open Go.RowKit Go.Conc

def xs120 : ByteArray := ⟨#[120]⟩
def ys121 : ByteArray := ⟨#[121]⟩
set_option maxRecDepth 100000 in
set_option maxHeartbeats 4000000 in
theorem law_rooms (r : Int) (w : World) : Calls Try.prog 3 #[.int .i64 r] w fun e w' => e = .returned (.bool true) ∧ Below w.heap.size w w' := by
  by_cases hbad : r < 1 ∨ 5000 < r
  · have CN := Lib.hid (S.new_bad w r hbad)
    rcases hbad with t1 | t2
    · go_enter Try.func3, Try.ntmps3
      go_wp2_with (first
        | (go_at_call 7; refine (known_any _).mono ?_; rintro e w2 ⟨rfl, k2⟩)
        | (go_at_call 6; (with_reducible refine CN.out.mono ?_); rintro e w1 ⟨rfl, rfl⟩))
      go_ret
      exact ⟨rfl, k2⟩
    · have t1 : ¬ r < 1 := by omega
      go_enter Try.func3, Try.ntmps3
      go_wp2_with (first
        | (go_at_call 7; refine (known_any _).mono ?_; rintro e w2 ⟨rfl, k2⟩)
        | (go_at_call 6; (with_reducible refine CN.out.mono ?_); rintro e w1 ⟨rfl, rfl⟩))
      go_ret
      exact ⟨rfl, k2⟩
  · obtain ⟨k, rfl⟩ : ∃ k : Nat, r = (k : Int) := ⟨r.toNat, by omega⟩
    have t1 : ¬ (k : Int) < 1 := by omega
    have t2 : ¬ 5000 < (k : Int) := by omega
    have CN := Lib.hid (S.new_any w k (by omega) (by omega))
    have HK := Lib.hid (show k ≤ 5000 by omega)
    clear hbad
    go_enter Try.func3, Try.ntmps3
    go_wp2_with (first
      | (go_at_call 8; refine (S.room_any _ _ b c k _ B0.out).mono ?_; rintro e w2 ⟨rfl, rfl⟩)
      | (go_at_call 6; (with_reducible refine CN.out.mono ?_); rintro e w1 ⟨b, c, rfl, hb0, k1⟩; have B0 := Lib.hid hb0; have K1 := Lib.hid k1; clear hb0 k1))
    have h0 : Hid (S.BoxR w.heap.size w1 b c k (List.replicate 0 xs120)) := B0.out
    go_loopg [5] k (fun (gh : Nat) s5 wx => ∃ i : Nat, gh = k - i ∧ i ≤ k ∧ s5 = .int .i64 (i : Int) ∧ Hid (S.BoxR w.heap.size wx b c k (List.replicate i xs120)) ∧ Hid (w1.grownBy wx (some c)))
    case atStart => exact ⟨0, rfl, Nat.zero_le _, rfl, h0, grownBy_refl _ _⟩
    case round =>
      clear h0
      obtain ⟨i, rfl, hi, rfl, BX, KX⟩ := hrel
      by_cases hlt : i < k
      · have t3 : (i : Int) < (k : Int) := by omega
        have e3 : IntKind.i64.wrap ((i : Int) + 1) = ((i + 1 : Nat) : Int) := by rw [IntKind.wrap_i64]; have := HK.out; omega
        have hp := Lib.hid (S.put_room _ wr b c k _ xs120 BX.out (by simpa using hlt))
        rw [← List.replicate_succ'] at hp
        go_wp2_with (go_at_call 9; refine hp.out.mono ?_; rintro e w2 ⟨rfl, hb2, k2⟩)
        go_roundg (k - (i + 1))
        case measure => omega
        case rel => exact ⟨i + 1, rfl, hlt, by go_num, hb2, grownBy_trans KX.out k2⟩
      · obtain rfl : i = k := by omega
        have t3 : decide ((i : Int) < (i : Int)) = false := by simp
        have hl : ∀ W, S.BoxR w.heap.size W b c i (List.replicate i xs120) → Calls Try.prog 10 #[.pointer (some ⟨b, 0, none⟩)] W fun e w' => e = .returned (.int .i64 (i : Int)) ∧ W = w' := fun W hW => by
          have := S.len_any _ W b c i _ hW
          rwa [List.length_replicate] at this
        have HL := Lib.hid hl
        have zx := KX.out.size
        clear hl
        go_wp2_with (first
          | (go_at_call 10; refine (HL.out w3 hb3).mono ?_; rintro e w4 ⟨rfl, rfl⟩)
          | (go_at_call 9; refine (S.put_full _ w2 b c i _ ys121 (BX.out.kept k2) (by simp)).mono ?_; rintro e w3 ⟨rfl, hb3, k3⟩)
          | (go_at_call 7; refine (known_any _).mono ?_; rintro e w2 ⟨rfl, k2⟩))
        go_ret
        have z1 := K1.out.size
        have z2 := k2.size
        exact ⟨rfl, ((K1.out.trans (below_of_grown KX.out B0.out.lt.2.1 z1)).trans (k2.mono (by omega))).trans (k3.mono (by omega))⟩
end Go.Proofs.Ytlhdhgagglpphaa.Bx
