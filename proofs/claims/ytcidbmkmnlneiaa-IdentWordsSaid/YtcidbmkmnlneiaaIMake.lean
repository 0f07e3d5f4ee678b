/-
  The contracts of ident's Digit and Make. Conditions: a text of at most 100000 bytes.
-/
import Derived.Test.YtcidbmkmnlneiaaICheck
import Derived.Laws.Runes
namespace Go.Proofs.Ytcidbmkmnlneiaa.Id
open Go.RowKit

set_option maxRecDepth 100000 in
theorem digit_no (w : World) (s : ByteArray) (hs : s.size ≤ 100000) (h : headB (sb s) = false) :
    Calls Try.prog 8 #[.string s] w fun e w' => e = .returned (.tuple #[.int .u8 0, .int .i64 3]) ∧ Below w.heap.size w w' := by
  have ch := headed_any w s hs
  rw [h] at ch
  have CH := Lib.hid ch
  clear ch h
  go_enter Try.func8, Try.ntmps8
  go_wp2_with (go_at_call 23; refine CH.out.mono ?_; rintro e w1 ⟨rfl, hb1⟩)
  go_ret2
  exact ⟨rfl, hb1⟩

set_option maxRecDepth 100000 in
theorem digit_yes (w : World) (s : ByteArray) (hs : s.size ≤ 100000) (h : headB (sb s) = true) :
    Calls Try.prog 8 #[.string s] w fun e w' => e = .returned (.tuple #[.int .u8 (48 + chkD (sb s)), .int .i64 0]) ∧ Below w.heap.size w w' := by
  have ch := headed_any w s hs
  rw [h] at ch
  have CH := Lib.hid ch
  have cc : ∀ W, Calls Try.prog 24 #[.string s] W fun e w' => e = .returned (.int .u8 (48 + chkD (sb s))) ∧ Below W.heap.size W w' := fun W => check_any W s h
  have CC := Lib.hid cc
  clear ch cc h
  go_enter Try.func8, Try.ntmps8
  go_wp2_with (first | (go_at_call 23; refine CH.out.mono ?_; rintro e w1 ⟨rfl, hb1⟩) | (go_at_call 24; refine (CC.out _).mono ?_; rintro e w2 ⟨rfl, hb2⟩))
  go_ret2
  exact ⟨rfl, hb1.trans (hb2.mono hb1.size)⟩

/-- A string of one byte. -/
def one (c : Int) : ByteArray := ⟨#[UInt8.ofNat c.toNat]⟩
theorem sb_one {c : Int} (h0 : 0 ≤ c) (h1 : c ≤ 255) : sb (one c) = [c] := by
  simp [sb, one]
  omega
theorem encode_one {c : Int} (h0 : 0 ≤ c) (h1 : c < 128) : Utf8.encode c = one c := by
  have hv : Utf8.valid c = true := by simp [Utf8.valid]; omega
  unfold Utf8.encode one
  simp only [hv, if_true]
  rw [if_pos (by omega)]
theorem sb_add (s t : ByteArray) : sb (s ++ t) = sb s ++ sb t := by
  unfold sb
  rw [ByteArray.data_append, Array.toList_append, List.map_append]

/-- The ISIN that is made. -/
def madeS (s : ByteArray) : ByteArray := s ++ one (48 + chkD (sb s))
theorem sb_made (s : ByteArray) : sb (madeS s) = madeL (sb s) := by
  have := chkD_range (sb s)
  rw [madeS, sb_add, sb_one (by omega) (by omega)]
  rfl
theorem madeS_size (s : ByteArray) : (madeS s).size = s.size + 1 := by rw [← sb_len, sb_made, madeL, List.length_append, sb_len]; rfl

set_option maxRecDepth 100000 in
theorem make_no (w : World) (s : ByteArray) (hs : s.size ≤ 100000) (h : headB (sb s) = false) :
    Calls Try.prog 9 #[.string s] w fun e w' => e = .returned (.tuple #[.string ByteArray.empty, .int .i64 3]) ∧ Below w.heap.size w w' := by
  have CH := Lib.hid (digit_no w s hs h)
  clear h
  go_enter Try.func9, Try.ntmps9
  go_wp2_with (go_at_call 8; refine CH.out.mono ?_; rintro e w1 ⟨rfl, hb1⟩)
  go_ret2
  exact ⟨rfl, hb1⟩

set_option maxRecDepth 100000 in
theorem make_yes (w : World) (s : ByteArray) (hs : s.size ≤ 100000) (h : headB (sb s) = true) :
    Calls Try.prog 9 #[.string s] w fun e w' => e = .returned (.tuple #[.string (madeS s), .int .i64 0]) ∧ Below w.heap.size w w' := by
  have ch := digit_yes w s hs h
  have hr := chkD_range (sb s)
  have hm : madeS s = s ++ one (48 + chkD (sb s)) := rfl
  obtain ⟨c, hc⟩ : ∃ c, c = 48 + chkD (sb s) := ⟨_, rfl⟩
  rw [← hc] at ch hm
  have c0 : 0 ≤ c := by omega
  have c1 : c < 128 := by omega
  have CH := Lib.hid ch
  have HM := Lib.hid hm
  have henc := encode_one c0 c1
  have hcv : ∀ W, (convert 21 9 (.int .i32 c)).run Try.prog W = .ok (.string (one c)) W := fun W => by
    rw [← henc]
    simp [convert, run_underlying Try.underlying9, run_underlying Try.underlying21, Conv.intToString]
  have hno : ¬ 9223372036854775807 < s.size + (one c).size := by
    have : (one c).size = 1 := rfl
    omega
  clear ch hm hc hr h henc
  go_enter Try.func9, Try.ntmps9
  go_wp2_with (go_at_call 8; refine CH.out.mono ?_; rintro e w1 ⟨rfl, hb1⟩)
  go_ret2
  exact ⟨by rw [HM.out]; rfl, hb1⟩
end Go.Proofs.Ytcidbmkmnlneiaa.Id
