/-
  The contracts of a nil network's calls; the law NetNil answers true: its walk. Conditions: none.
-/
import Derived.Test.YtnekjbdogdghnaaNKno
namespace Go.Proofs.Ytnekjbdogdghnaa.Ne
open Go.RowKit Go.Conc Bx
open Fr (BAt bok bv)

set_option maxRecDepth 100000 in
theorem next_nil (w : World) (d : Int) : Calls Try.prog 13 #[.pointer none, .int .i64 d] w fun e w' => e = .returned (.tuple #[.slice none 0 0, .int .i64 5]) ∧ Below w.heap.size w w' := by
  go_enter Try.func13, Try.ntmps13
  go_wp2_with (go_at_call 32; refine (busy_nil _ _).mono ?_; rintro e w1 ⟨rfl, k1⟩)
  go_ret2
  exact ⟨rfl, k1.alloc k1.size _⟩
set_option maxRecDepth 100000 in
theorem turn_nil (w : World) (d : Int) : Calls Try.prog 16 #[.pointer none, .int .i64 d] w fun e w' => e = .returned (.int .i64 5) ∧ Below w.heap.size w w' := by
  go_enter Try.func16, Try.ntmps16
  go_wp2_with (go_at_call 32; refine (busy_nil _ _).mono ?_; rintro e w1 ⟨rfl, k1⟩)
  go_ret
  exact ⟨rfl, k1.alloc k1.size _⟩
set_option maxRecDepth 100000 in
theorem double_nil (w : World) (d : Int) : Calls Try.prog 20 #[.pointer none, .int .i64 d] w fun e w' => e = .returned (.int .i64 5) ∧ Below w.heap.size w w' := by
  go_enter Try.func20, Try.ntmps20
  go_wp2_with (go_at_call 32; refine (busy_nil _ _).mono ?_; rintro e w1 ⟨rfl, k1⟩)
  go_ret
  exact ⟨rfl, k1.alloc k1.size _⟩
set_option maxRecDepth 100000 in
theorem bend_nil (w : World) (d : Int) (a b : Int) : Calls Try.prog 22 #[.pointer none, .int .i64 d, .int .i64 a, .int .u8 b] w fun e w' => e = .returned (.int .i64 5) ∧ Below w.heap.size w w' := by
  go_enter Try.func22, Try.ntmps22
  go_wp2_with (go_at_call 32; refine (busy_nil _ _).mono ?_; rintro e w1 ⟨rfl, k1⟩)
  go_ret
  exact ⟨rfl, k1.alloc k1.size _⟩
set_option maxRecDepth 100000 in
theorem nlose_nil2 (w : World) (d : Int) : Calls Try.prog 18 #[.pointer none, .int .i64 d] w fun e w' => e = .returned (.int .i64 5) ∧ Below w.heap.size w w' := by
  go_enter Try.func18, Try.ntmps18
  go_wp2_with (go_at_call 13; refine (next_nil _ _).mono ?_; rintro e w1 ⟨rfl, k1⟩)
  go_ret
  exact ⟨rfl, k1⟩
theorem sfr_one {n0 : Nat} {w : World} {u : Value} {l : List Int} (h : BFr n0 w u l) : SFr n0 (w.alloc (.cells #[u] 37)) (.slice (some ⟨w.heap.size, 0, none⟩) 1 1) [l] := by
  have b0 := block_new w (.cells #[u] 37)
  refine ⟨_, _, rfl, by simp, fun _ => ⟨_, 0, rfl, free_new b0 (.inr rfl), fun i m hl => ?_⟩⟩
  match i, hl with
  | 0, hl => cases hl; exact ⟨_, (block_cell b0).1, h.ch (.of_below ((Below.refl _ _).alloc (Nat.le_refl _) _))⟩
  | i + 1, hl => simp at hl
theorem BFr.any {n0 n1 : Nat} {w w1 : World} {u : Value} {l : List Int} (h : BFr n0 w u l) (hb : Below w.heap.size w w1) (hn : w.heap.size ≤ n1) : BFr n1 w1 u l := by
  obtain ⟨A, c, h1, h2, h3, h4⟩ := h
  refine ⟨A, c, h1, h2, h3, fun hp => ?_⟩
  obtain ⟨g, o, h5, h6, h7⟩ := h4 hp
  exact ⟨g, o, h5, ⟨Nat.lt_of_lt_of_le h6.1 hb.size, fun ⟨x, _⟩ => by have := h6.1; omega⟩, fun i hi => (hb.cell (p := ⟨g, o + i, none⟩) h6.1).trans (h7 i hi)⟩
set_option maxRecDepth 100000 in
set_option maxHeartbeats 4000000 in
theorem law_nil (w : World) (d : Int) (A : Option Addr) (n c : Nat) (l : List Int) (h : BFr w.heap.size w (.slice A n c) l) : Calls Try.prog 6 #[.int .i64 d, .slice A n c] w fun e w' => e = .returned (.bool true) ∧ Below w.heap.size w w' := by
  have HS : Hid (∀ W, Below w.heap.size w W → Calls Try.prog 12 #[.pointer none, .int .i64 d, .slice (some ⟨W.heap.size, 0, none⟩) 1 1] (W.alloc (.cells #[.slice A n c] 37)) fun e w' => e = .returned (.int .i64 0) ∧ Below (W.heap.size + 1) (W.alloc (.cells #[.slice A n c] 37)) w') := fun W hW => by
    have := nSend_nil (W.alloc (.cells #[.slice A n c] 37)) d _ 1 1 [l] rfl (sfr_one (h.any hW (Nat.le_refl _)))
    rwa [World.size_alloc] at this
  clear h
  go_enter Try.func6, Try.ntmps6
  go_wp2_with (first
    | (go_at_call 13; refine (next_nil _ _).mono ?_; rintro e w1 ⟨rfl, k1⟩; have K1 := Lib.hid k1; clear k1)
    | (go_at_call 10; refine (known_any _).mono ?_; rintro e w2 ⟨rfl, k2⟩; have K2 := Lib.hid (K1.out.trans (k2.mono K1.out.size)); clear k2)
    | (go_at_call 12; refine (HS.out _ K2.out).mono ?_; rintro e w3 ⟨rfl, k3⟩
       have K3 : Hid (Below w.heap.size w w3) := ((K2.out.alloc K2.out.size (.cells #[.slice A n c] 37)).trans (k3.mono (Nat.le_succ_of_le K2.out.size)))
       clear k3)
    | (go_at_call 16; refine (turn_nil _ _).mono ?_; rintro e w4 ⟨rfl, k4⟩; have K4 := Lib.hid (K3.out.trans (k4.mono K3.out.size)); clear k4)
    | (go_at_call 18; refine (nlose_nil2 _ _).mono ?_; rintro e w5 ⟨rfl, k5⟩; have K5 := Lib.hid (K4.out.trans (k5.mono K4.out.size)); clear k5)
    | (go_at_call 20; refine (double_nil _ _).mono ?_; rintro e w6 ⟨rfl, k6⟩; have K6 := Lib.hid (K5.out.trans (k6.mono K5.out.size)); clear k6)
    | (go_at_call 22; refine (bend_nil _ _ _ _).mono ?_; rintro e w7 ⟨rfl, k7⟩; have K7 := Lib.hid (K6.out.trans (k7.mono K6.out.size)); clear k7)
    | (go_at_call 26; refine (nLen_nil _ _).mono ?_; rintro e w8 ⟨rfl, k8⟩; have K8 := Lib.hid (K7.out.trans (k8.mono K7.out.size)); clear k8)
    | (go_at_call 24; refine (nAll_nil _ _).mono ?_; rintro e w9 ⟨rfl, k9⟩; have K9 := Lib.hid (K8.out.trans (k9.mono K8.out.size)); clear k9)
    | (go_at_call 27; refine (lost_nil _).mono ?_; rintro e w10 ⟨rfl, rfl⟩))
  go_ret
  exact ⟨rfl, K9.out⟩
end Go.Proofs.Ytnekjbdogdghnaa.Ne
