/-
  The contracts of trade's parsed, of the closure that reads a number, of strings.Clone, and of strings.SplitN at the chapter's example. Conditions: a number's text of at most 1000 bytes.
-/
import Derived.Test.YtkoihpfgleboiaaDoorYChk
import Derived.Test.YtkoihpfgleboiaaDoorFixA
import Derived.Test.YtkoihpfgleboiaaDoorShelf
namespace Go.Proofs.YtkoihpfgleboiaaDoor.Td
open Go.RowKit

theorem fparse_num (w : World) (s : ByteArray) (v : Int) (hs : s.size ≤ 1000) (h1 : plainB (digsOf (sb s)) = true) (h2 : negB (sb s) = false) (h3 : numOf (digsOf (sb s)) = v) (hv : 0 ≤ v ∧ v ≤ 9223372036854775807) :
    Calls Tryd.prog 44 #[.string s] w fun e w' => ∃ h l, e = .returned (.tuple #[.agg #[.int .i64 h, .int .u64 l], .int .i64 0]) ∧ Hid (WOk h l ∧ Hid (v = wv h l)) ∧ Below w.heap.size w w' := by
  refine (parse_any w s hs).mono ?_
  rintro e w' ⟨h, l, er, he, hp, hb⟩
  rcases hp.out with ⟨⟨k | ⟨k, _⟩, _⟩⟩ | ⟨_, _, k⟩
  · rw [h1] at k; cases k
  · rw [h2] at k; cases k
  · rw [h3, h2] at k
    simp only [Signed, Bool.false_eq_true, if_false] at k
    rcases k with ⟨_, _, rfl, k1, k2⟩ | ⟨k, _⟩
    · exact ⟨h, l, he, ⟨k1, k2.symm⟩, hb⟩
    · exact absurd ⟨by omega, by omega⟩ k
theorem fint_num (w : World) (h l v : Int) (hs : Hid (WOk h l ∧ Hid (v = wv h l))) (hv : 0 ≤ v ∧ v ≤ 9223372036854775807) :
    Calls Tryd.prog 45 #[.agg #[.int .i64 h, .int .u64 l]] w fun e w' => e = .returned (.tuple #[.int .i64 v, .int .i64 0]) ∧ Below w.heap.size w w' := by
  have e : v = wv h l := hs.out.2.out
  rw [e] at hv ⊢
  exact int_yes w h l hs.out.1 (by omega) (by omega)

set_option maxRecDepth 100000 in
set_option maxHeartbeats 1000000 in
theorem parsed_num (w : World) (s : ByteArray) (v : Int) (hs : s.size ≤ 1000) (h1 : plainB (digsOf (sb s)) = true) (h2 : negB (sb s) = false) (h3 : numOf (digsOf (sb s)) = v) (hv : 0 ≤ v ∧ v ≤ 9223372036854775807) :
    Calls Tryd.prog 35 #[.string s] w fun e w' => e = .returned (.tuple #[.int .i64 v, .int .i64 0]) ∧ Below w.heap.size w w' := by
  have C1 := Lib.hid (fun W => fparse_num W s v hs h1 h2 h3 hv)
  have HV := Lib.hid hv
  clear h1 h2 h3 hs hv
  go_enter Tryd.func35, Tryd.ntmps35
  go_wp2_with fail
  refine (C1.out _).mono ?_
  rintro e w1 ⟨h, l, rfl, hk, hb1⟩
  have HB1 := Lib.hid hb1
  clear hb1
  have z1 := Lib.hid (show (w1.alloc (.cells #[.int .i64 h, .int .u64 l] 35)).heap.size = w1.heap.size + 1 by simp)
  go_wp2_with (go_at_call 45; (with_reducible refine (fint_num _ h l v hk HV.out).mono ?_); rintro e w2 ⟨rfl, hb2⟩; have HB2 := Lib.hid hb2; clear hb2)
  go_ret2
  exact ⟨rfl, (HB1.out.alloc HB1.out.size _).trans (HB2.out.mono (by rw [z1.out]; have := HB1.out.size; omega))⟩

theorem set_same {w : World} {B : Nat} {v : Value} {t : TypeId} {fr : Nat × Nat} (h : w.heap[B]? = some (.cells #[v] t fr)) : Below w.heap.size w (w.setCell ⟨B, 0, none⟩ v) := by
  refine ⟨rfl, rfl, rfl, by simp [World.setCell], fun k _ => ?_⟩
  by_cases e : k = B
  · subst e
    simp only [World.setCell, Array.getElem?_modify, if_true]
    rw [h]; rfl
  · exact Below.heap_setCell _ _ _ _ e
theorem blk1 {w : World} {b : Nat} {x : Value} {t : TypeId} (h : w.heap[b]? = some (.cells #[x] t (0, 0))) : w.cell? ⟨b, 0, none⟩ = some x ∧ w.frozen? ⟨b, 0, none⟩ = false :=
  ⟨by rw [cell_of_row w b 0 _ _ _ h]; rfl, by simp [World.frozen?, h]⟩

set_option maxRecDepth 100000 in
set_option maxHeartbeats 1000000 in
theorem number_cl (w : World) (B : Nat) (s : ByteArray) (v : Int) (hB : w.heap[B]? = some (.cells #[.int .i64 0] 36 (0, 0)))
    (hc : ∀ W, Calls Tryd.prog 35 #[.string s] W fun e w' => e = .returned (.tuple #[.int .i64 v, .int .i64 0]) ∧ Below W.heap.size W w') :
    Calls Tryd.prog 34 #[.string s, .pointer (some ⟨B, 0, none⟩)] w fun e w' => e = .returned (.int .i64 v) ∧ Below w.heap.size w w' := by
  have HC := Lib.hid hc
  have H0 := Lib.hid hB
  clear hc hB
  go_enter Tryd.func34, Tryd.ntmps34
  go_wp2_with fail
  refine (HC.out _).mono ?_
  rintro e w1 ⟨rfl, hb⟩
  have K1 := Lib.hid (block_kept H0.out hb)
  obtain ⟨c0, f0⟩ := blk1 K1.out
  have HB := Lib.hid hb
  clear hb
  go_wp2
  go_ret
  exact ⟨rfl, HB.out.trans ((set_same K1.out).mono HB.out.size)⟩

set_option maxRecDepth 100000 in
theorem clone_any (s : ByteArray) (h : s.size ≤ 1000) (w : World) : Calls Tryd.prog 36 #[.string s] w fun e w' => e = .returned (.string s) ∧ Below w.heap.size w w' := by
  have hl : s.size ≤ 281474976710656 := by omega
  clear h
  go_enter Tryd.func36, Tryd.ntmps36
  go_wp2_with (go_at_call 46; (with_reducible refine (Tryd.stringslite_Clone s w hl).mono ?_); rintro e w1 ⟨rfl, hb⟩; have HB := Lib.hid hb; clear hb)
  go_ret
  exact ⟨rfl, HB.out⟩

/-- The chapter's example is cut into its six pieces. -/
theorem split_list : Lib.splitB { data := #[32] } 0 6 { data := #[55, 32, 97, 108, 102, 97, 32, 98, 101, 116, 97, 32, 85, 83, 48, 51, 55, 56, 51, 51, 49, 48, 48, 53, 32, 49, 48, 32, 50, 53, 48] } = [{ data := #[55] }, { data := #[97, 108, 102, 97] }, { data := #[98, 101, 116, 97] }, { data := #[85, 83, 48, 51, 55, 56, 51, 51, 49, 48, 48, 53] }, { data := #[49, 48] }, { data := #[50, 53, 48] }] := by kernel_rfl
theorem split_cells : Lib.cellsOf [{ data := #[55] }, { data := #[97, 108, 102, 97] }, { data := #[98, 101, 116, 97] }, { data := #[85, 83, 48, 51, 55, 56, 51, 51, 49, 48, 48, 53] }, { data := #[49, 48] }, { data := #[50, 53, 48] }] 7 = #[.string { data := #[55] }, .string { data := #[97, 108, 102, 97] }, .string { data := #[98, 101, 116, 97] }, .string { data := #[85, 83, 48, 51, 55, 56, 51, 51, 49, 48, 48, 53] }, .string { data := #[49, 48] }, .string { data := #[50, 53, 48] }, .string { data := #[] }] := by kernel_rfl
theorem split_known (w : World) (m : Int) (hm : w.cell? ⟨0, 0, none⟩ = some (.int .i64 m)) :
    Calls Tryd.prog 33 #[.string { data := #[55, 32, 97, 108, 102, 97, 32, 98, 101, 116, 97, 32, 85, 83, 48, 51, 55, 56, 51, 51, 49, 48, 48, 53, 32, 49, 48, 32, 50, 53, 48] }, .string { data := #[32] }, .int .i64 7] w fun e w' =>
      e = .returned (.slice (some ⟨w.heap.size, 0, none⟩) 6 7) ∧ w' = w.alloc (.cells #[.string { data := #[55] }, .string { data := #[97, 108, 102, 97] }, .string { data := #[98, 101, 116, 97] }, .string { data := #[85, 83, 48, 51, 55, 56, 51, 51, 49, 48, 48, 53] }, .string { data := #[49, 48] }, .string { data := #[50, 53, 48] }, .string { data := #[] }] 9) := by
  have h := Tryd.strings_SplitN { data := #[55, 32, 97, 108, 102, 97, 32, 98, 101, 116, 97, 32, 85, 83, 48, 51, 55, 56, 51, 51, 49, 48, 48, 53, 32, 49, 48, 32, 50, 53, 48] } { data := #[32] } 7 m w (by decide) hm (by decide) (by decide) (by decide)
  rw [show min 7 (({ data := #[55, 32, 97, 108, 102, 97, 32, 98, 101, 116, 97, 32, 85, 83, 48, 51, 55, 56, 51, 51, 49, 48, 48, 53, 32, 49, 48, 32, 50, 53, 48] } : ByteArray).size + 1) = 7 from by decide] at h
  rw [show 7 - 1 = 6 from rfl, split_list, split_cells] at h
  exact h
theorem num0 (w : World) : Calls Tryd.prog 35 #[.string { data := #[55] }] w fun e w' => e = .returned (.tuple #[.int .i64 7, .int .i64 0]) ∧ Below w.heap.size w w' :=
  parsed_num w _ 7 (by decide) (by kernel_rfl) (by kernel_rfl) (by kernel_rfl) (by decide)
theorem num4 (w : World) : Calls Tryd.prog 35 #[.string { data := #[49, 48] }] w fun e w' => e = .returned (.tuple #[.int .i64 10, .int .i64 0]) ∧ Below w.heap.size w w' :=
  parsed_num w _ 10 (by decide) (by kernel_rfl) (by kernel_rfl) (by kernel_rfl) (by decide)
theorem num5 (w : World) : Calls Tryd.prog 35 #[.string { data := #[50, 53, 48] }] w fun e w' => e = .returned (.tuple #[.int .i64 250, .int .i64 0]) ∧ Below w.heap.size w w' :=
  parsed_num w _ 250 (by decide) (by kernel_rfl) (by kernel_rfl) (by kernel_rfl) (by decide)
end Go.Proofs.YtkoihpfgleboiaaDoor.Td
