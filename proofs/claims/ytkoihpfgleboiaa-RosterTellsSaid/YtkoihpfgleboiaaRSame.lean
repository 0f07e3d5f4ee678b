/-
  The contracts of the references' Same at equal lists; rows that are read. Conditions: at most a thousand texts.
-/
import Derived.Test.YtkoihpfgleboiaaRRte
namespace Go.Proofs.Ytkoihpfgleboiaa.Ro
open Go.RowKit Tb Td

/-- Numbers in memory. -/
def NRd (w : World) (A : Option Addr) (L : List Int) : Prop := L = [] ∨ ∃ g o, A = some ⟨g, o, none⟩ ∧ g < w.heap.size ∧ ∀ i s, L[i]? = some s → w.cell? ⟨g, o + i, none⟩ = some (.int .i64 s)
theorem NRd.below {w w' : World} {A : Option Addr} {L : List Int} (h : NRd w A L) (hb : Below w.heap.size w w') : NRd w' A L :=
  h.imp id fun ⟨g, o, e, hg, hc⟩ => ⟨g, o, e, Nat.lt_of_lt_of_le hg hb.size, fun i s hi => (hb.cell (p := ⟨g, o + i, none⟩) hg).trans (hc i s hi)⟩
theorem own_strs {w : World} {base : Nat} {v : Value} {L : List ByteArray} (h : w.ownsRow base 9 1 v L.length (strs L)) : ∃ A cap, v = .slice A L.length cap ∧ SRd w A L := by
  rcases h.2 with ⟨rfl, h0⟩ | ⟨g, cap, cur, rfl, _, hh, _, _, hs, ht⟩
  · obtain rfl : L = [] := List.length_eq_zero_iff.1 h0
    exact ⟨none, 0, rfl, .inl rfl⟩
  · refine ⟨_, cap, rfl, .inr ⟨g, 0, rfl, (Array.getElem?_eq_some_iff.1 hh).1, fun i s hi => ?_⟩⟩
    have hlt : i < L.length := (List.getElem?_eq_some_iff.1 hi).1
    have hc : (strs L)[i]? = some (.string s) := by unfold strs; rw [List.getElem?_map, hi]; rfl
    rw [← ht, List.getElem?_take, if_pos (by omega)] at hc
    rw [Nat.zero_add, cell_of_row _ g i _ _ _ hh]
    simpa using hc
theorem own_nums {w : World} {base : Nat} {v : Value} {L : List Int} (h : w.ownsRow base 3 1 v L.length (nums L)) : ∃ A cap, v = .slice A L.length cap ∧ NRd w A L := by
  rcases h.2 with ⟨rfl, h0⟩ | ⟨g, cap, cur, rfl, _, hh, _, _, hs, ht⟩
  · obtain rfl : L = [] := List.length_eq_zero_iff.1 h0
    exact ⟨none, 0, rfl, .inl rfl⟩
  · refine ⟨_, cap, rfl, .inr ⟨g, 0, rfl, (Array.getElem?_eq_some_iff.1 hh).1, fun i s hi => ?_⟩⟩
    have hlt : i < L.length := (List.getElem?_eq_some_iff.1 hi).1
    have hc : (nums L)[i]? = some (.int .i64 s) := by unfold nums; rw [List.getElem?_map, hi]; rfl
    rw [← ht, List.getElem?_take, if_pos (by omega)] at hc
    rw [Nat.zero_add, cell_of_row _ g i _ _ _ hh]
    simpa using hc
set_option maxRecDepth 100000 in
set_option maxHeartbeats 1000000 in
theorem same_strs (w : World) (A B : Option Addr) (c1 c2 : Nat) (L : List ByteArray) (hA : SRd w A L) (hB : SRd w B L) (hn : L.length ≤ 1000) :
    Calls Try.prog 16 #[.slice A L.length c1, .slice B L.length c2] w fun e w' => e = .returned (.bool true) ∧ Below w.heap.size w w' := by
  have HA := Lib.hid hA
  have HB := Lib.hid hB
  have e0 : ((L.length : Int) != (L.length : Int)) = false := by simp
  clear hA hB
  go_enter Try.func16, Try.ntmps16
  go_wp2
  go_loopg [5] L.length (fun (gh : Nat) si wx => ∃ i : Nat, gh = L.length - i ∧ i ≤ L.length ∧ si = .int .i64 (i : Int) ∧ Hid (Below w.heap.size w wx))
  case atStart => exact ⟨0, rfl, Nat.zero_le _, rfl, Below.refl _ _⟩
  case round =>
    obtain ⟨i, rfl, hi, rfl, hinv⟩ := hrel
    by_cases hlt : i < L.length
    · obtain ⟨s, hs⟩ : ∃ s, L[i]? = some s := ⟨_, List.getElem?_eq_getElem hlt⟩
      rcases HA.out with h0 | ⟨g, o, rfl, hg, hcell⟩
      · rw [h0] at hs; simp at hs
      rcases HB.out with h0 | ⟨g2, o2, rfl, hg2, hcell2⟩
      · rw [h0] at hs; simp at hs
      have c1 := (hinv.out.cell (p := ⟨g, o + i, none⟩) hg).trans (hcell i s hs)
      have c2 := (hinv.out.cell (p := ⟨g2, o2 + i, none⟩) hg2).trans (hcell2 i s hs)
      have t1 : (i : Int) < (L.length : Int) := by omega
      have t2 : (0 : Int) ≤ (i : Int) := by omega
      have e1 : (s.toList != s.toList) = false := by simp
      clear hcell hcell2 hs
      go_wp2_with fail
      go_quiet (fail)
      go_wp2
      go_roundg (L.length - (i + 1))
      case measure => omega
      case rel => exact ⟨i + 1, rfl, by omega, by go_num, below_drewN hinv.out _⟩
    · obtain rfl : i = L.length := by omega
      have HI := Lib.hid hinv.out
      clear hinv
      go_wp2
      go_ret
      exact ⟨rfl, HI.out⟩
set_option maxRecDepth 100000 in
set_option maxHeartbeats 1000000 in
theorem same_nums (w : World) (A B : Option Addr) (c1 c2 : Nat) (L : List Int) (hA : NRd w A L) (hB : NRd w B L) (hn : L.length ≤ 1000) :
    Calls Try.prog 21 #[.slice A L.length c1, .slice B L.length c2] w fun e w' => e = .returned (.bool true) ∧ Below w.heap.size w w' := by
  have HA := Lib.hid hA
  have HB := Lib.hid hB
  have e0 : ((L.length : Int) != (L.length : Int)) = false := by simp
  clear hA hB
  go_enter Try.func21, Try.ntmps21
  go_wp2
  go_loopg [5] L.length (fun (gh : Nat) si wx => ∃ i : Nat, gh = L.length - i ∧ i ≤ L.length ∧ si = .int .i64 (i : Int) ∧ Hid (Below w.heap.size w wx))
  case atStart => exact ⟨0, rfl, Nat.zero_le _, rfl, Below.refl _ _⟩
  case round =>
    obtain ⟨i, rfl, hi, rfl, hinv⟩ := hrel
    by_cases hlt : i < L.length
    · obtain ⟨s, hs⟩ : ∃ s, L[i]? = some s := ⟨_, List.getElem?_eq_getElem hlt⟩
      rcases HA.out with h0 | ⟨g, o, rfl, hg, hcell⟩
      · rw [h0] at hs; simp at hs
      rcases HB.out with h0 | ⟨g2, o2, rfl, hg2, hcell2⟩
      · rw [h0] at hs; simp at hs
      have c1 := (hinv.out.cell (p := ⟨g, o + i, none⟩) hg).trans (hcell i s hs)
      have c2 := (hinv.out.cell (p := ⟨g2, o2 + i, none⟩) hg2).trans (hcell2 i s hs)
      have t1 : (i : Int) < (L.length : Int) := by omega
      have t2 : (0 : Int) ≤ (i : Int) := by omega
      have e1 : (s != s) = false := by simp
      clear hcell hcell2 hs
      go_wp2_with fail
      go_quiet (fail)
      go_wp2
      go_roundg (L.length - (i + 1))
      case measure => omega
      case rel => exact ⟨i + 1, rfl, by omega, by go_num, below_drewN hinv.out _⟩
    · obtain rfl : i = L.length := by omega
      have HI := Lib.hid hinv.out
      clear hinv
      go_wp2
      go_ret
      exact ⟨rfl, HI.out⟩
end Go.Proofs.Ytkoihpfgleboiaa.Ro
