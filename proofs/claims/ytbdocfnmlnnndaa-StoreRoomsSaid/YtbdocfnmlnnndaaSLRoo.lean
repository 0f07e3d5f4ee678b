/-
  StoreRooms' law. Conditions: none.
-/
import Derived.Test.YtbdocfnmlnnndaaSKnown
import Derived.Test.YtbdocfnmlnnndaaSApp3
namespace Go.Proofs.Ytbdocfnmlnnndaa.Sr
open Go.RowKit Fr

def zer (n : Nat) : List Int := List.replicate n 0
theorem zer_len (n : Nat) : (zer n).length = n := by simp [zer]
theorem made_zer (q : Nat) (h : q ≤ 2000000) (W : World) : (Instr.makeSlice 32 (.int .i64 (q : Int)) (.int .i64 (q : Int))).run Try.prog W = .ok (.slice (some ⟨W.heap.size, 0, none⟩) q q) (W.alloc (.cells (bv (zer q)).toArray 5)) := by
  obtain ⟨i0, hi0, hz0, hz1, hz2⟩ := info_parts u8Inf
  have h2 := run_make (P := Try.prog) W 32 5 i0 _ Try.underlying32 hi0 hz0 .i64 .i64 (q : Int) (q : Int) (by omega) (Int.le_refl _) (by rw [hz2]; omega) (by omega)
  rw [Int.toNat_natCast, hz1, Nat.mul_one] at h2
  rw [h2]
  have e : madeCells (Value.int .u8 0).cells q = (bv (zer q)).toArray := by
    apply Array.ext'
    simp only [madeCells, Array.toList_map, Array.toList_range, bv, zer]
    apply List.ext_getElem
    · simp
    · intro i h1 h2
      simp [Value.cells, Nat.mod_one]
  rw [e]

theorem okA : rdy false [({ data := #[97] } : ByteArray)] = 0 := by decide
theorem use_free (s : S) (h : s.a = false) (n : Int) : useN s n = n ∧ useS s n = s := by unfold useN useS; rw [h]; simp

/-- The room is passed. -/
theorem r_full (w : World) (p n : Nat) (room : Int) (h : StR w p ⟨false, 0, false, room, 0⟩ none []) (hn : room < n) (hb : n ≤ 1000000) :
    Calls Try.prog 9 #[.pointer (some ⟨p, 0, none⟩), .string { data := #[97] }, .slice (some ⟨w.heap.size, 0, none⟩) n n] (w.alloc (.cells (bv (zer n)).toArray 5)) fun e w' => e = .returned (.int .i64 7) ∧ Mv w w' p none [] ⟨false, 0, false, room, 0⟩ none [] := by
  obtain ⟨h1, _⟩ := lit_free h (zer n) (0, 0)
  refine (append_full _ p _ none [] _ _ n n h1 okA (by show room < 0 + (n : Int); omega) hb).mono ?_
  rintro e w' ⟨rfl, hm⟩
  exact ⟨rfl, mv_alloc h hm⟩
/-- There is room for just so many. -/
theorem r_ok (w : World) (p n : Nat) (room : Int) (h : StR w p ⟨false, 0, false, room, 0⟩ none []) (hn : room = n) (hb : n ≤ 1000000) :
    Calls Try.prog 9 #[.pointer (some ⟨p, 0, none⟩), .string { data := #[97] }, .slice (some ⟨w.heap.size, 0, none⟩) n n] (w.alloc (.cells (bv (zer n)).toArray 5)) fun e w' => e = .returned (.int .i64 0) ∧ ∃ mb v, Mv w w' p none [] ⟨false, 0, false, room, n⟩ mb [({ data := #[97] }, v, zer n)] := by
  obtain ⟨h1, h2⟩ := lit_free h (zer n) (0, 0)
  rw [zer_len] at h2
  by_cases h0 : 0 < n
  · have := append_put _ p _ none [] _ _ n n (zer n) n h1 okA (by show ¬ room < 0 + (n : Int); omega) hb (zer_len n) (use_free _ rfl _).1 h0 h2
    refine this.mono ?_
    rintro e w' ⟨rfl, mb', v', hm⟩
    rw [(use_free _ rfl _).2] at hm ⊢
    refine ⟨rfl, mb', v', ?_⟩
    have e2 : putL [] ({ data := #[97] } : ByteArray) (v', bytL [] ({ data := #[97] } : ByteArray) ++ (zer n).take n) = [({ data := #[97] }, v', zer n)] := by
      rw [List.take_of_length_le (by rw [zer_len]; exact Nat.le_refl _)]; simp [putL, bytL]
    rw [e2] at hm
    have e3 : (0 : Int) + (n : Int) = n := by omega
    have hm2 := mv_alloc h hm
    simp only [e3] at hm2
    exact hm2
  · have e : n = 0 := by omega
    subst e
    have := append_zero _ p _ none [] _ (some ⟨w.heap.size, 0, none⟩) 0 h1 okA
    refine this.mono ?_
    rintro e w' ⟨rfl, mb', v', hm⟩
    rw [(use_free _ rfl _).2] at hm ⊢
    exact ⟨rfl, mb', v', mv_alloc h hm⟩

set_option maxRecDepth 100000 in
set_option maxHeartbeats 2000000 in
theorem law_rooms (w : World) (room : Int) : Calls Try.prog 5 #[.int .i64 room] w fun e w' => e = .returned (.bool true) ∧ Below w.heap.size w w' := by
  have hk := fun W => known_any W
  have HK := Lib.hid hk
  clear hk
  by_cases hbad : room < 0 ∨ 1048576 < room
  · have HN := Lib.hid (new_bad w room hbad)
    rcases hbad with hbad | hbad
    · go_enter Try.func5, Try.ntmps5
      go_wp2_with (first
        | (go_at_call 8; (with_reducible refine HN.out.mono ?_); rintro e w1 ⟨rfl, rfl⟩)
        | (go_at_call 25; (with_reducible refine (HK.out _).mono ?_); rintro e w2 ⟨rfl, hb2⟩; have HB2 := Lib.hid hb2; clear hb2))
      go_ret
      exact ⟨rfl, HB2.out⟩
    · have h0 : ¬ room < 0 := by omega
      go_enter Try.func5, Try.ntmps5
      go_wp2_with (first
        | (go_at_call 8; (with_reducible refine HN.out.mono ?_); rintro e w1 ⟨rfl, rfl⟩)
        | (go_at_call 25; (with_reducible refine (HK.out _).mono ?_); rintro e w2 ⟨rfl, hb2⟩; have HB2 := Lib.hid hb2; clear hb2))
      go_ret
      exact ⟨rfl, HB2.out⟩
  · have h0 : 0 ≤ room := by omega
    have h1 : room ≤ 1048576 := by omega
    have HN := Lib.hid (new_any w room h0 h1)
    obtain ⟨p, hp⟩ : ∃ p, p = w.heap.size := ⟨_, rfl⟩
    rw [← hp] at HN
    have HP := Lib.hid hp
    clear hp hbad
    by_cases hg : 2000 < room
    · go_enter Try.func5, Try.ntmps5
      go_wp2_with (first
        | (go_at_call 8; (with_reducible refine HN.out.mono ?_); rintro e w1 ⟨rfl, h1⟩; have H1 := Lib.hid h1; clear h1)
        | (go_at_call 24; (with_reducible refine (room_own _ p _ _ H1.out.1.blk).mono ?_); rintro e w' ⟨rfl, rfl⟩)
        | (go_at_call 25; (with_reducible refine (HK.out _).mono ?_); rintro e w2 ⟨rfl, hb2⟩; have HB2 := Lib.hid hb2; clear hb2))
      go_ret
      exact ⟨rfl, by rw [← HP.out]; exact H1.out.2.1.trans (HB2.out.mono (Nat.le_of_lt H1.out.2.2))⟩
    · obtain ⟨n, rfl⟩ : ∃ n : Nat, room = (n : Int) := ⟨room.toNat, by omega⟩
      have hn : n ≤ 2000 := by omega
      have hmin : min (n : Int) 2000 = (n : Int) := by omega
      have hmk1 := made_zer (n + 1) (by omega)
      have hmk2 := made_zer n (by omega)
      have e1 : ((n + 1 : Nat) : Int) = (n : Int) + 1 := by omega
      rw [e1] at hmk1
      clear e1
      go_enter Try.func5, Try.ntmps5
      go_wp2_with (first
        | (go_at_call 8; (with_reducible refine HN.out.mono ?_); rintro e w1 ⟨rfl, h1⟩; have H1 := Lib.hid h1; clear h1)
        | (go_at_call 24; (with_reducible refine (room_own _ p _ _ H1.out.1.blk).mono ?_); rintro e w' ⟨rfl, rfl⟩)
        | (go_at_call 28; (with_reducible refine (used_own _ p _ _ H4.out.st.blk).mono ?_); rintro e w' ⟨rfl, rfl⟩)
        | (go_at_call 9; (with_reducible refine (r_ok w3 p n _ H3.out.st rfl (by omega)).mono ?_); rintro e w4 ⟨rfl, mb, v, h4⟩; have H4 := Lib.hid h4; clear h4)
        | (go_at_call 9; (with_reducible refine (r_full w2 p (n + 1) _ (H1.out.1.below HB2.out) (by omega) (by omega)).mono ?_); rintro e w3 ⟨rfl, h3⟩; have H3 := Lib.hid h3; clear h3)
        | (go_at_call 25; (with_reducible refine (HK.out _).mono ?_); rintro e w2 ⟨rfl, hb2⟩; have HB2 := Lib.hid hb2; clear hb2))
      go_ret
      refine ⟨rfl, ?_⟩
      have k2 : Below p w1 w2 := HB2.out.mono (Nat.le_of_lt H1.out.2.2)
      have k4 : Below p w2 w4 := (H3.out.trans H4.out).off.below (fun i hi => by rw [own_nil hi]; exact Nat.le_refl _) (by have := H1.out.2.2; have := HB2.out.size; omega)
      rw [← HP.out]
      exact (H1.out.2.1.trans k2).trans k4
end Go.Proofs.Ytbdocfnmlnnndaa.Sr
