/-
  The contracts of Double, bend, Bend. Conditions: those of the network; at most two million bytes.
-/
import Derived.Test.YtnekjbdogdghnaaNOp2
namespace Go.Proofs.Ytnekjbdogdghnaa.Ne
open Go.RowKit Go.Conc Bx
open Fr (BAt bok)

section
variable {n0 p R g cp : Nat} {w w' : World} {ls : List (List V)} {lost : Int} {arr : Array Value} {bs : List (Nat × Nat)}
set_option maxRecDepth 100000 in
theorem double_any (h : NetB n0 w p R ls lost g cp arr bs) (d : Int) : Calls Try.prog 20 #[.pointer (some ⟨p, 0, none⟩), .int .i64 d] w fun e w' => e = .returned (.int .i64 (dblE R ls d)) ∧ NetB n0 w' p R (dblL R ls d) lost g cp arr bs ∧ Ch n0 w w' := by
  by_cases hm : mayF ls d = 0
  · obtain ⟨i, x, r, rfl, hw, hl⟩ := mayF_zero hm
    have e1 : dblL R ls (i : Int) = if R ≤ (x :: r).length then ls else ls.set i (x :: r ++ [x]) := by unfold dblL; rw [hw]; simp
    have e2 : dblE R ls (i : Int) = if R ≤ (x :: r).length then 7 else 0 := by unfold dblE; rw [hw]
    rw [e1, e2]
    clear hm hw e1 e2
    obtain ⟨b, hb, hx, hR⟩ := h.at_ hl
    have lb : b.2 < w.heap.size := hx.lt.2.2
    have H := Lib.hid (busy_ok h hb hl)
    have HF : Hid (∀ W, Below w.heap.size w W → Calls Try.prog 36 #[.agg #[.pointer (some ⟨b.1, 0, none⟩)]] W fun e w' => e = .returned (.agg #[.string x.1, .bool x.2]) ∧ (NetB n0 w' p R ls lost g cp arr bs ∧ Ch n0 W w') ∧ W.grownBy w' (some b.2)) := fun W hW => first_any (h.below hW) hb hl
    have HP : Hid (∀ W, NetB n0 W p R ls lost g cp arr bs → Calls Try.prog 35 #[.pointer (some ⟨b.1, 0, none⟩), .agg #[.string x.1, .bool x.2]] W fun e w' => e = .returned (.int .i64 (if R ≤ (x :: r).length then 7 else 0)) ∧ (NetB n0 w' p R (if R ≤ (x :: r).length then ls else ls.set i (x :: r ++ [x])) lost g cp arr bs ∧ Ch n0 W w') ∧ W.grownBy w' (some b.2)) := fun W hW => put_net hW x hb hl
    obtain ⟨m, hmm⟩ : ∃ m : Int, m = if R ≤ (x :: r).length then 7 else 0 := ⟨_, rfl⟩
    obtain ⟨ls', hls⟩ : ∃ ls', ls' = if R ≤ (x :: r).length then ls else ls.set i (x :: r ++ [x]) := ⟨_, rfl⟩
    rw [← hmm, ← hls] at HP ⊢
    obtain ⟨b1, b2⟩ := b
    obtain ⟨x1, x2⟩ := x
    clear h hb hl hx hR hmm hls
    go_enter Try.func20, Try.ntmps20
    go_upto_region 4 with (first
      | (go_at_call 32; refine H.out.mono ?_; rintro e w1 ⟨rfl, k1⟩
         have K1 := Lib.hid ((k1.alloc k1.size (.cells #[.pointer (some ⟨b1, 0, none⟩)] 67)).drew)
         have z1 := block_new w1 (.cells #[.pointer (some ⟨b1, 0, none⟩)] 67)
         have Z1 : Hid ((w1.alloc (.cells #[.pointer (some ⟨b1, 0, none⟩)] 67)).drew.heap[w1.heap.size]? = some (.cells #[.pointer (some ⟨b1, 0, none⟩)] 67 (0, 0))) := z1
         have c1 := (block_cell Z1.out).1
         have hl1 := k1.size
         have LB : Hid (w1.heap.size ≠ b2) := (by show w1.heap.size ≠ b2; omega)
         clear k1 z1 hl1))
    go_region_held3 (fun w' => w'.cell? ⟨w1.heap.size, 0, none⟩ = some (.pointer (some ⟨b1, 0, none⟩))) (first | exact c1 | exact z2 | exact z3) (first
      | (go_at_call 36; refine (HF.out _ K1.out).mono ?_; rintro e w2 ⟨rfl, ⟨n2, c2⟩, g2⟩
         have Z2 := Lib.hid (block_grown Z1.out g2 LB.out)
         have z2 := (block_cell Z2.out).1
         have N2 := Lib.hid n2
         have C2 := Lib.hid c2
         clear n2 c2 g2)
      | (go_at_call 35; refine (HP.out _ N2.out).mono ?_; rintro e w3 ⟨rfl, ⟨n3, c3⟩, g3⟩
         have z3 := (block_cell (block_grown Z2.out g3 LB.out)).1
         have N3 := Lib.hid n3
         have C3 := Lib.hid c3
         clear n3 c3 g3))
    all_goals
      go_wp2
      go_ret
      exact ⟨rfl, N3.out, ((Ch.of_below K1.out).trans C2.out).trans C3.out⟩
  · have hq := (bad_eq hm).2.1 R
    rw [hq.1, hq.2]
    have H := Lib.hid (busy_bad h hm)
    obtain ⟨m, hmm⟩ : ∃ m, m = mayF ls d := ⟨_, rfl⟩
    rw [← hmm] at H hm ⊢
    have HN := Lib.hid h
    clear h hmm hq
    go_enter Try.func20, Try.ntmps20
    go_wp2_with (go_at_call 32; refine H.out.mono ?_; rintro e w1 ⟨rfl, k1⟩)
    go_ret
    have k2 := k1.alloc k1.size (.cells #[.pointer none] 67)
    exact ⟨rfl, HN.out.below k2, .of_below k2⟩
end
end Go.Proofs.Ytnekjbdogdghnaa.Ne
