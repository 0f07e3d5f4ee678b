/-
  FrameLong answers true for every number. Conditions: the number's own range.
-/
import Derived.Test.YtmcoinfdgidblaaFKnown
namespace Go.Proofs.Ytmcoinfdgidblaa.Fr
open Go.RowKit

def zer (q : Nat) : List Int := List.replicate q 0
theorem zer_bok (q : Nat) : bok (zer q) := fun x hx => by
  have := List.eq_of_mem_replicate hx
  omega
theorem zer_len (q : Nat) : (zer q).length = q := by simp [zer]
theorem made_zer (q : Nat) (h : q ≤ 2000000) (W : World) : (Instr.makeSlice 23 (.int .i64 (q : Int)) (.int .i64 (q : Int))).run Try.prog W = .ok (.slice (some ⟨W.heap.size, 0, none⟩) q q) (W.alloc (.cells (bv (zer q)).toArray 5)) := by
  obtain ⟨i0, hi0, hz0, hz1, hz2⟩ := info_parts u8Inf
  have h2 := run_make (P := Try.prog) W 23 5 i0 _ Try.underlying23 hi0 hz0 .i64 .i64 (q : Int) (q : Int) (by omega) (Int.le_refl _) (by rw [hz2]; omega) (by omega)
  rw [Int.toNat_natCast, hz1, Nat.mul_one] at h2
  rw [h2]
  have e : madeCells (Value.int .u8 0).cells q = (bv (zer q)).toArray := by
    apply Array.ext'
    simp only [madeCells, Array.toList_map, Array.toList_range, bv, zer]
    apply List.ext_getElem
    · simp
    · intro i h1 h2
      simp [Value.cells, Nat.mod_one]
  rw [e]
theorem zer_at (w : World) (q : Nat) : BAt (w.alloc (.cells (bv (zer q)).toArray 5)) (.slice (some ⟨w.heap.size, 0, none⟩) q q) (zer q) := by
  refine ⟨_, q, by rw [zer_len], by rw [zer_len]; omega, fun _ => ⟨w.heap.size, 0, rfl, by simp, fun i hi => ?_⟩⟩
  have hb := block_new w (.cells (bv (zer q)).toArray 5)
  simp only [World.cell?, Nat.zero_add]
  rw [hb]
  have := bv_getD hi
  simpa using this


set_option maxRecDepth 100000 in
set_option maxHeartbeats 4000000 in
theorem law_long_more (n : Int) (N : Nat) (hN1 : 1048568 < N) (hN2 : N ≤ 1048570) (hn : 1048566 + (IntKind.u64.wrap n).tmod 5 = (N : Int)) (w : World) :
    Calls Try.prog 7 #[.int .i64 n] w fun e w' => e = .returned (.bool true) ∧ Below w.heap.size w w' := by
  have hmk := made_zer N (by omega)
  obtain ⟨k, hk⟩ : ∃ k : Nat, (k : Int) = (IntKind.u64.wrap n).tmod 5 := ⟨N - 1048566, by omega⟩
  rw [← hk] at hn
  have hk2 := hk.symm
  have t1 : (1048568 : Int) < (N : Int) := by omega
  have t2 : (0 : Int) ≤ (N : Int) := by omega
  have t3 : (k : Int) ≤ 4 := by omega
  have t4 : (0 : Int) ≤ (k : Int) := by omega
  clear hk
  go_enter Try.func7, Try.ntmps7
  go_wp2_with (first
    | (go_at_call 10; refine (known_any _).mono ?_; rintro e w2 ⟨rfl, b2⟩; have B2 : Hid (Below w.heap.size w w2) := ((Below.refl _ w).alloc (Nat.le_refl _) _).trans (b2.mono (by simp)); clear b2)
    | (go_at_call 8; refine (make_long _ _ N N hN1).mono ?_; rintro e w1 ⟨rfl, rfl⟩))
  go_ret
  exact ⟨rfl, B2.out⟩
set_option maxRecDepth 100000 in
set_option maxHeartbeats 4000000 in
theorem law_long_ok (n : Int) (N : Nat) (hN1 : N ≤ 1048568) (hn : 1048566 + (IntKind.u64.wrap n).tmod 5 = (N : Int)) (hN0 : 1048566 ≤ N) (w : World) :
    Calls Try.prog 7 #[.int .i64 n] w fun e w' => e = .returned (.bool true) ∧ Below w.heap.size w w' := by
  have hmk := made_zer N (by omega)
  obtain ⟨k, hk⟩ : ∃ k : Nat, (k : Int) = (IntKind.u64.wrap n).tmod 5 := ⟨N - 1048566, by omega⟩
  rw [← hk] at hn
  have hk2 := hk.symm
  obtain ⟨q, hq⟩ : ∃ q, q = N + 8 := ⟨_, rfl⟩
  have e1 : (N : Int) + 8 = (q : Int) := by omega
  have t1 : ¬ (1048568 : Int) < (N : Int) := by omega
  have t2 : (0 : Int) ≤ (N : Int) := by omega
  have t3 : (k : Int) ≤ 4 := by omega
  have t4 : (0 : Int) ≤ (k : Int) := by omega
  have HM : Hid (Calls Try.prog 8 #[.slice (some ⟨w.heap.size, 0, none⟩) N N] (w.alloc (.cells (bv (zer N)).toArray 5)) fun e w' => ∃ A c, e = .returned (.tuple #[.slice A q c, .int .i64 0]) ∧ BAt w' (.slice A q c) (frF (zer N)) ∧ Below w.heap.size w w') :=
    (make_any _ _ _ (zer_at w N) (zer_bok N) (by rw [zer_len]; exact hN1)).mono fun e w' ⟨⟨A, c, h1, h2⟩, h3⟩ => by
      rw [zer_len, ← hq] at h1 h2
      exact ⟨A, c, h1, BAt.of_own h2, ((Below.refl _ w).alloc (Nat.le_refl _) _).trans (h3.mono (by simp))⟩
  have HF : Hid (opB (frF (zer N)) = zer N ∧ opE (frF (zer N)) = 0 ∧ bok (frF (zer N)) ∧ (frF (zer N)).length ≤ 2000000) :=
    ⟨frF_opB (by rw [zer_len]; exact hN1), frF_opE (by rw [zer_len]; exact hN1), frF_bok (zer_bok N), by rw [frF_len, zer_len]; omega⟩
  clear hk hq
  go_enter Try.func7, Try.ntmps7
  go_wp2_with (first
    | (go_at_call 10; refine (known_any _).mono ?_; rintro e w3 ⟨rfl, b3⟩; have B3 : Hid (Below w.heap.size w w3) := B2.out.trans (b3.mono B2.out.size); clear b3)
    | (go_at_call 9; refine (open_any _ _ _ HA.out HF.out.2.2.1 HF.out.2.2.2).mono ?_; rintro e w2 ⟨⟨A2, c2, rfl, _⟩, b2⟩; rw [HF.out.1, HF.out.2.1, zer_len]; have B2 : Hid (Below w.heap.size w w2) := B1.out.trans (b2.mono B1.out.size); clear b2)
    | (go_at_call 8; refine HM.out.mono ?_; rintro e w1 ⟨A1, c1, rfl, ha, b1⟩; have HA := Lib.hid ha; have B1 := Lib.hid b1; clear ha b1))
  go_ret
  exact ⟨rfl, B3.out⟩
theorem law_long (w : World) (n : Int) : Calls Try.prog 7 #[.int .i64 n] w fun e w' => e = .returned (.bool true) ∧ Below w.heap.size w w' := by
  have h0 : 0 ≤ IntKind.u64.wrap n := by rw [IntKind.wrap_u64]; omega
  have h1 : (IntKind.u64.wrap n).tmod 5 = IntKind.u64.wrap n % 5 := Int.tmod_eq_emod_of_nonneg h0
  obtain ⟨N, hN⟩ : ∃ N : Nat, 1048566 + (IntKind.u64.wrap n).tmod 5 = (N : Int) := ⟨(1048566 + (IntKind.u64.wrap n).tmod 5).toNat, by omega⟩
  by_cases h : N ≤ 1048568
  · exact law_long_ok n N h hN (by omega) w
  · exact law_long_more n N (by omega) (by omega) hN w
end Go.Proofs.Ytmcoinfdgidblaa.Fr
