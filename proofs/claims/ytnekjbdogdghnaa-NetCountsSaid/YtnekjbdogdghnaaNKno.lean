/-
  The fixed question is answered true. Conditions: none.
-/
import Derived.Test.YtnekjbdogdghnaaNNew
namespace Go.Proofs.Ytnekjbdogdghnaa.Ne
open Go.RowKit Go.Conc Bx
open Fr (BAt bok bv)

theorem free_new {n0 : Nat} {w : World} {k : Nat} {cs : Array Value} {t : TypeId} {fr : Nat × Nat} (h : w.heap[k]? = some (.cells cs t fr)) (ht : t = 5 ∨ t = 37) : Free n0 w k :=
  ⟨(Array.getElem?_eq_some_iff.1 h).1, fun ⟨_, o, ho, hk⟩ => by
    rw [h] at ho
    cases ho
    rcases ht with rfl | rfl
    · have h6 : 5 = 83 ∨ 5 = 65 ∨ 5 = 67 ∨ 5 = 60 := hk
      revert h6; decide
    · have h6 : 37 = 83 ∨ 37 = 65 ∨ 37 = 67 ∨ 37 = 60 := hk
      revert h6; decide⟩
theorem bfr_one {n0 : Nat} {w : World} {k : Nat} {x : Int} {fr : Nat × Nat} (h : w.heap[k]? = some (.cells #[.int .u8 x] 5 fr)) (hx : 0 ≤ x ∧ x < 256) : BFr n0 w (.slice (some ⟨k, 0, none⟩) 1 1) [x] :=
  ⟨_, _, rfl, by simp, fun y hy => by rw [List.mem_singleton.1 hy]; exact hx, fun _ => ⟨k, 0, rfl, free_new h (.inl rfl), fun i hi => by
    simp at hi
    subst hi
    simp [World.cell?, h]⟩⟩
abbrev W3 (W : World) : World := ((W.alloc (.cells #[.int .u8 120] 5 (1, 2))).alloc (.cells #[.int .u8 121] 5 (1, 2))).alloc (.cells #[.slice (some ⟨W.heap.size, 0, none⟩) 1 1, .slice (some ⟨W.heap.size + 1, 0, none⟩) 1 1] 37)
theorem sfr_two (n0 : Nat) (W : World) : SFr n0 (W3 W) (.slice (some ⟨W.heap.size + 2, 0, none⟩) 2 2) [[120], [121]] := by
  have b0 : (W3 W).heap[W.heap.size]? = some (.cells #[.int .u8 120] 5 (1, 2)) := block_old (block_old (block_new _ _) _) _
  have b1 : (W3 W).heap[W.heap.size + 1]? = some (.cells #[.int .u8 121] 5 (1, 2)) := block_old (by have := block_new (W.alloc (.cells #[.int .u8 120] 5 (1, 2))) (.cells #[.int .u8 121] 5 (1, 2)); simpa using this) _
  have b2 : (W3 W).heap[W.heap.size + 2]? = some (.cells #[.slice (some ⟨W.heap.size, 0, none⟩) 1 1, .slice (some ⟨W.heap.size + 1, 0, none⟩) 1 1] 37 (0, 0)) := by
    have := block_new ((W.alloc (.cells #[.int .u8 120] 5 (1, 2))).alloc (.cells #[.int .u8 121] 5 (1, 2))) (.cells #[.slice (some ⟨W.heap.size, 0, none⟩) 1 1, .slice (some ⟨W.heap.size + 1, 0, none⟩) 1 1] 37)
    simpa using this
  refine ⟨_, _, rfl, by simp, fun _ => ⟨_, 0, rfl, free_new b2 (.inr rfl), fun i l hl => ?_⟩⟩
  obtain ⟨⟨c0, c1⟩, _⟩ := block_cell2 b2
  match i, hl with
  | 0, hl => cases hl; exact ⟨_, c0, bfr_one b0 (by omega)⟩
  | 1, hl => cases hl; exact ⟨_, c1, bfr_one b1 (by omega)⟩
  | i + 2, hl => simp at hl
theorem w3_below (W : World) : Below W.heap.size W (W3 W) := (((Below.refl _ _).alloc (Nat.le_refl _) _).alloc (by simp) _).alloc (by simp; omega) _
abbrev ka : V := (strOf [120], false)
abbrev kb : V := (strOf [121], false)
abbrev kc : V := pbV ka 0 1
theorem kse : strOf (sb (strOf [121])) = ⟨#[121]⟩ := by
  rw [sb_strOf (fun x hx => by simp at hx; omega)]; rfl
theorem ksz (x : V) (h : x.1.size ≤ 2000000) : ∀ l ∈ [[], [x]], ∀ y ∈ l, y.1.size ≤ 2000000 := fun l hl y hy => by
  simp at hl
  rcases hl with rfl | rfl
  · cases hy
  · simp at hy; subst hy; exact h
theorem kp1 : pbE ka 0 1 = 0 := by decide
theorem kp2 : pbE kc 0 1 = 10 := by decide
theorem kE1 : bendE [[], [ka]] 1 0 1 = 0 := kp1
theorem kL1 : bendL [[], [ka]] 1 0 1 = [[], [kc]] := by
  unfold bendL
  rw [show wayF [[], [ka]] 1 = some [ka] from rfl]
  simp only [if_pos kp1]
  rfl
theorem kE2 : bendE [[], [kc]] 1 0 1 = 10 := kp2
theorem kL2 : bendL [[], [kc]] 1 0 1 = [[], [kc]] := by
  unfold bendL
  rw [show wayF [[], [kc]] 1 = some [kc] from rfl]
  simp only [if_neg (show ¬ pbE kc 0 1 = 0 by rw [kp2]; decide)]
set_option maxRecDepth 100000 in
set_option maxHeartbeats 4000000 in
theorem known_any (w : World) : Calls Try.prog 10 #[] w fun e w' => e = .returned (.bool true) ∧ Below w.heap.size w w' := by
  have CN : Hid (Calls Try.prog 8 #[.int .i64 2, .int .i64 5] w fun e w' => e = .returned (.tuple #[.pointer (some ⟨w.heap.size, 0, none⟩), .int .i64 0]) ∧ (∃ g cp arr bs, NetB w.heap.size w' w.heap.size 5 [[], []] 0 g cp arr bs) ∧ Below w.heap.size w w') := nNew_any w 2 5 (by omega) (by omega) (by omega) (by omega)
  have qc1 := fun (w : World) (C : Array Value) (n c : Nat) => Lib.run_convert_bytes_const (P := Try.prog) w 37 5 C n c Try.underlying37 Try.underlying5
  have qc2 : ∀ (w : World) (o : Obj) (C : Array Value) (n c : Nat), (convert 37 37 (.slice (some ⟨w.heap.size + 1, 0, none⟩) n c)).run Try.prog ((w.alloc o).alloc (.cells C 5)) = .ok (.slice (some ⟨w.heap.size + 1, 0, none⟩) n c) ((w.alloc o).alloc (.cells C 5 (C.size, C.size + 1))) := fun w o C n c => by
    have := qc1 (w.alloc o) C n c
    simpa using this
  go_enter Try.func10, Try.ntmps10
  go_wp2_with (first
    | (go_at_call 8; refine CN.out.mono ?_; rintro e w1 ⟨rfl, ⟨g, cp, arr, bs, n1⟩, k1⟩
       have HS : Hid (Calls Try.prog 12 #[.pointer (some ⟨w.heap.size, 0, none⟩), .int .i64 1, .slice (some ⟨w1.heap.size + 2, 0, none⟩) 2 2] (W3 w1) fun e w' => e = .returned (.int .i64 2) ∧ NetB w.heap.size w' w.heap.size 5 [[], [ka, kb]] 0 g cp arr bs ∧ Ch w.heap.size (W3 w1) w') := (by
         exact nSend_any (n1.below (w3_below w1)) 1 _ 2 2 [[120], [121]] rfl (sfr_two _ _) (by omega) (by omega) (by omega))
       have K1 : Hid (Below w.heap.size w (W3 w1)) := k1.trans ((w3_below w1).mono k1.size)
       clear n1 k1)
    | (go_at_call 12; refine HS.out.mono ?_; rintro e w2 ⟨rfl, n2, c2⟩
       have HT : Hid (Calls Try.prog 16 #[.pointer (some ⟨w.heap.size, 0, none⟩), .int .i64 1] w2 fun e w' => e = .returned (.int .i64 0) ∧ NetB w.heap.size w' w.heap.size 5 [[], [kb, ka]] 0 g cp arr bs ∧ Ch w.heap.size w2 w') := turn_any n2 1
       have C2 := Lib.hid c2
       clear n2 c2)
    | (go_at_call 16; refine HT.out.mono ?_; rintro e w3 ⟨rfl, n3, c3⟩
       have HX : Hid (Calls Try.prog 13 #[.pointer (some ⟨w.heap.size, 0, none⟩), .int .i64 1] w3 fun e w' => ∃ u, e = .returned (.tuple #[u, .int .i64 0]) ∧ BAt w' u (sb (strOf [121])) ∧ NetB w.heap.size w' w.heap.size 5 [[], [ka]] 0 g cp arr bs ∧ Ch w.heap.size w3 w') := next_ok n3 (i := 1) (x := kb) (r := [ka]) rfl
       have C3 := Lib.hid c3
       clear n3 c3)
    | (go_at_call 13; refine HX.out.mono ?_; rintro e w4 ⟨u, rfl, hu, n4, c4⟩
       obtain ⟨Au, qu, rfl, _⟩ : ∃ A c, u = Value.slice A 1 c ∧ True := (by obtain ⟨A, c, e, _⟩ := hu; exact ⟨A, c, e, trivial⟩)
       have hcv := conv_any hu (sb_bok _)
       rw [kse] at hcv
       have HB : Hid (Calls Try.prog 22 #[.pointer (some ⟨w.heap.size, 0, none⟩), .int .i64 1, .int .i64 0, .int .u8 1] w4 fun e w' => e = .returned (.int .i64 0) ∧ NetB w.heap.size w' w.heap.size 5 [[], [kc]] 0 g cp arr bs ∧ Ch w.heap.size w4 w') := (by
         have := bend_any n4 1 0 1 (by omega) (ksz ka (by decide))
         rw [kE1, kL1] at this
         exact this)
       have C4 := Lib.hid c4
       clear n4 c4 hu)
    | (go_at_call 22; refine HB.out.mono ?_; rintro e w5 ⟨rfl, n5, c5⟩
       have HB2 : Hid (Calls Try.prog 22 #[.pointer (some ⟨w.heap.size, 0, none⟩), .int .i64 1, .int .i64 0, .int .u8 1] w5 fun e w' => e = .returned (.int .i64 10) ∧ NetB w.heap.size w' w.heap.size 5 [[], [kc]] 0 g cp arr bs ∧ Ch w.heap.size w5 w') := (by
         have := bend_any n5 1 0 1 (by omega) (ksz kc (by decide))
         rw [kE2, kL2] at this
         exact this)
       have C5 := Lib.hid c5
       clear n5 c5 HB)
    | (go_at_call 22; refine HB2.out.mono ?_; rintro e w6 ⟨rfl, n6, c6⟩
       have HL : Hid (Calls Try.prog 26 #[.pointer (some ⟨w.heap.size, 0, none⟩), .int .i64 1] w6 fun e w' => e = .returned (.int .i64 1) ∧ Below w6.heap.size w6 w') := nLen_yes n6 (i := 1) (l := [kc]) rfl
       have C6 := Lib.hid c6
       clear n6 c6)
    | (go_at_call 26; refine HL.out.mono ?_; rintro e w7 ⟨rfl, k7⟩))
  go_ret
  have hc : Ch w.heap.size (W3 w1) w7 := ((((C2.out.trans C3.out).trans C4.out).trans C5.out).trans C6.out).trans (.of_below k7)
  exact ⟨rfl, K1.out.trans (hc.below K1.out.size)⟩
end Go.Proofs.Ytnekjbdogdghnaa.Ne
