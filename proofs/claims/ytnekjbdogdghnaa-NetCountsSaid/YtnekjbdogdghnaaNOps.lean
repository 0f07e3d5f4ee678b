/-
  The contracts of lose, Next, Turn, Lose, Double, Lost. Conditions: those of the network.
-/
import Derived.Test.YtnekjbdogdghnaaNByt
namespace Go.Proofs.Ytnekjbdogdghnaa.Ne
open Go.RowKit Go.Conc Bx
open Fr (BAt bok)

/-- What is wrong with asking for the first one. -/
def mayF (ls : List (List V)) (d : Int) : Int := match wayF ls d with
  | none => 5
  | some [] => 13
  | some (_ :: _) => 0
theorem mayF_zero {ls : List (List V)} {d : Int} (h : mayF ls d = 0) : ∃ (i : Nat) (x : V) (r : List V), d = (i : Int) ∧ wayF ls d = some (x :: r) ∧ ls[i]? = some (x :: r) := by
  unfold mayF at h
  split at h
  · cases h
  · cases h
  · rename_i x r hw
    obtain ⟨i, h1, h2, _⟩ := wayF_some hw
    exact ⟨i, x, r, h1, hw, h2⟩
theorem mayF_all (ls : List (List V)) (d : Int) : mayF ls d = 5 ∨ mayF ls d = 13 ∨ mayF ls d = 0 := by
  unfold mayF
  split
  · exact .inl rfl
  · exact .inr (.inl rfl)
  · exact .inr (.inr rfl)
section
variable {n0 p R g cp : Nat} {w w' : World} {ls : List (List V)} {lost : Int} {arr : Array Value} {bs : List (Nat × Nat)}
theorem busy_bad (h : NetB n0 w p R ls lost g cp arr bs) {d : Int} (hm : mayF ls d ≠ 0) : Calls Try.prog 32 #[.pointer (some ⟨p, 0, none⟩), .int .i64 d] w fun e w' => e = .returned (.tuple #[.agg #[.pointer none], .int .i64 (mayF ls d)]) ∧ Below w.heap.size w w' := by
  cases hw : wayF ls d with
  | none =>
    have e : mayF ls d = 5 := by unfold mayF; rw [hw]
    rw [e]; exact busy_no h hw
  | some l =>
    obtain ⟨i, rfl, hl, hi⟩ := wayF_some hw
    cases l with
    | cons x r => exact absurd (by unfold mayF; rw [hw]) hm
    | nil =>
      have e : mayF ls (i : Int) = 13 := by unfold mayF; rw [hw]
      obtain ⟨b, hb, _⟩ := h.at_ hl
      have := busy_yes h hb hl
      rw [e]
      rwa [if_pos rfl, if_pos rfl] at this
theorem busy_ok (h : NetB n0 w p R ls lost g cp arr bs) {i : Nat} {b : Nat × Nat} {x : V} {r : List V} (hb : bs[i]? = some b) (hl : ls[i]? = some (x :: r)) : Calls Try.prog 32 #[.pointer (some ⟨p, 0, none⟩), .int .i64 (i : Int)] w fun e w' => e = .returned (.tuple #[.agg #[.pointer (some ⟨b.1, 0, none⟩)], .int .i64 0]) ∧ Below w.heap.size w w' := by
  have := busy_yes h hb hl
  rwa [if_neg (by simp), if_neg (by simp)] at this
/-- The first one of a way is taken. -/
theorem take_net (h : NetB n0 w p R ls lost g cp arr bs) {i : Nat} {b : Nat × Nat} {x : V} {r : List V} (hb : bs[i]? = some b) (hl : ls[i]? = some (x :: r)) : Calls Try.prog 33 #[.pointer (some ⟨b.1, 0, none⟩)] w fun e w' => e = .returned (.tuple #[.agg #[.string x.1, .bool x.2], .int .i64 0]) ∧ (NetB n0 w' p R (ls.set i r) lost g cp arr bs ∧ Ch n0 w w') ∧ w.grownBy w' (some b.2) := by
  obtain ⟨b', hb', hx, hr⟩ := h.at_ hl
  rw [hb] at hb'
  cases hb'
  exact (take_some n0 w b.1 b.2 R x r hx).mono fun e w' ⟨h1, h2, h3⟩ => ⟨h1, h.set hb hl h3 h2 (by simp at hr; omega), h3⟩
theorem put_net (h : NetB n0 w p R ls lost g cp arr bs) {i : Nat} {b : Nat × Nat} {l : List V} (x : V) (hb : bs[i]? = some b) (hl : ls[i]? = some l) : Calls Try.prog 35 #[.pointer (some ⟨b.1, 0, none⟩), .agg #[.string x.1, .bool x.2]] w fun e w' => e = .returned (.int .i64 (if R ≤ l.length then 7 else 0)) ∧ (NetB n0 w' p R (if R ≤ l.length then ls else ls.set i (l ++ [x])) lost g cp arr bs ∧ Ch n0 w w') ∧ w.grownBy w' (some b.2) := by
  obtain ⟨b', hb', hx, hr⟩ := h.at_ hl
  rw [hb] at hb'
  cases hb'
  by_cases hR : R ≤ l.length
  · rw [if_pos hR, if_pos hR]
    exact (put_full n0 w b.1 b.2 R l x hx hR).mono fun e w' ⟨h1, h2, h3⟩ => ⟨h1, ⟨h.below h3, .of_below h3⟩, grownBy_of_below _ h3⟩
  · rw [if_neg hR, if_neg hR]
    exact (put_room n0 w b.1 b.2 R l x hx (by omega)).mono fun e w' ⟨h1, h2, h3⟩ => ⟨h1, h.set hb hl h3 h2 (by simp; omega), h3⟩
theorem all_net (h : NetB n0 w p R ls lost g cp arr bs) {i : Nat} {b : Nat × Nat} {l : List V} (hb : bs[i]? = some b) (hl : ls[i]? = some l) : Calls Try.prog 38 #[.pointer (some ⟨b.1, 0, none⟩)] w fun e w' => ∃ v, e = .returned v ∧ w'.ownsRow w.heap.size 65 2 v l.length (pc l) ∧ NetB n0 w' p R ls lost g cp arr bs ∧ Ch n0 w w' := by
  obtain ⟨b', hb', hx, hr⟩ := h.at_ hl
  rw [hb] at hb'
  cases hb'
  have hR := h.le.1
  exact (all_any n0 w b.1 b.2 R l hx hr (by omega)).mono fun e w' ⟨v, h1, h2, h3, h4⟩ => ⟨v, h1, h2, by
    have := h.set hb hl h4 h3 hr
    rwa [show ls.set i l = ls from by
      obtain ⟨hi, he⟩ := List.getElem?_eq_some_iff.1 hl
      rw [← he]; exact List.set_getElem_self hi] at this⟩
set_option maxRecDepth 100000 in
theorem lose_any (h : NetB n0 w p R ls lost g cp arr bs) (k : Int) (h1 : -4611686018427387904 ≤ lost) (h2 : lost ≤ 4611686018427387904) (h3 : 0 ≤ k ∧ k ≤ 1000000) : Calls Try.prog 31 #[.pointer (some ⟨p, 0, none⟩), .int .i64 k] w fun e w' => e = .returned (.tuple #[]) ∧ NetB n0 w' p R ls (lost + k) g cp arr bs ∧ Ch n0 w w' := by
  have c1 := h.c1
  have f1 := h.f1
  have H := Lib.hid (h.lose (lost + k))
  have e1 : IntKind.wrap .i64 (lost + k) = lost + k := by rw [IntKind.wrap_i64]; omega
  clear h
  go_enter Try.func31, Try.ntmps31
  go_wp2
  go_end0
  exact ⟨rfl, H.out⟩
set_option maxRecDepth 100000 in
theorem lose_nil (w : World) (k : Int) : Calls Try.prog 31 #[.pointer none, .int .i64 k] w fun e w' => e = .returned (.tuple #[]) ∧ w = w' := by
  go_enter Try.func31, Try.ntmps31
  go_wp2
  go_end0
  exact ⟨rfl, rfl⟩
set_option maxRecDepth 100000 in
theorem lost_any (h : NetB n0 w p R ls lost g cp arr bs) : Calls Try.prog 27 #[.pointer (some ⟨p, 0, none⟩)] w fun e w' => e = .returned (.int .i64 lost) ∧ w = w' := by
  have c1 := h.c1
  clear h
  go_enter Try.func27, Try.ntmps27
  go_wp2
  go_ret
  exact ⟨rfl, rfl⟩
set_option maxRecDepth 100000 in
theorem lost_nil (w : World) : Calls Try.prog 27 #[.pointer none] w fun e w' => e = .returned (.int .i64 0) ∧ w = w' := by
  go_enter Try.func27, Try.ntmps27
  go_wp2
  go_ret
  exact ⟨rfl, rfl⟩
set_option maxRecDepth 100000 in
theorem next_bad (h : NetB n0 w p R ls lost g cp arr bs) {d : Int} (hm : mayF ls d ≠ 0) : Calls Try.prog 13 #[.pointer (some ⟨p, 0, none⟩), .int .i64 d] w fun e w' => e = .returned (.tuple #[.slice none 0 0, .int .i64 (mayF ls d)]) ∧ Below w.heap.size w w' := by
  have H := Lib.hid (busy_bad h hm)
  obtain ⟨m, hmm⟩ : ∃ m, m = mayF ls d := ⟨_, rfl⟩
  rw [← hmm] at H hm ⊢
  clear h hmm
  go_enter Try.func13, Try.ntmps13
  go_wp2_with (go_at_call 32; refine H.out.mono ?_; rintro e w1 ⟨rfl, k1⟩)
  go_ret2
  exact ⟨rfl, k1.alloc k1.size _⟩
set_option maxRecDepth 100000 in
theorem next_ok (h : NetB n0 w p R ls lost g cp arr bs) {i : Nat} {x : V} {r : List V} (hl : ls[i]? = some (x :: r)) : Calls Try.prog 13 #[.pointer (some ⟨p, 0, none⟩), .int .i64 (i : Int)] w fun e w' => ∃ u, e = .returned (.tuple #[u, .int .i64 0]) ∧ BAt w' u (sb x.1) ∧ NetB n0 w' p R (ls.set i r) lost g cp arr bs ∧ Ch n0 w w' := by
  obtain ⟨b, hb, _⟩ := h.at_ hl
  have H := Lib.hid (busy_ok h hb hl)
  obtain ⟨x1, x2⟩ := x
  have HT : Hid (∀ W, Below w.heap.size w W → Calls Try.prog 33 #[.pointer (some ⟨b.1, 0, none⟩)] W fun e w' => e = .returned (.tuple #[.agg #[.string x1, .bool x2], .int .i64 0]) ∧ NetB n0 w' p R (ls.set i r) lost g cp arr bs ∧ Ch n0 W w') := fun W hW => (take_net (h.below hW) hb hl).mono fun e w' ⟨a, b, _⟩ => ⟨a, b⟩
  obtain ⟨cv, cw, hcw⟩ := str_new x1
  have hcv : ∀ W, (convert 9 37 (.string x1)).run Try.prog W = .ok (.slice (some ⟨W.heap.size, 0, none⟩) x1.size (cv W)) (cw W) := fun W => (hcw W).1
  have HC := Lib.hid hcw
  obtain ⟨b1, b2⟩ := b
  clear h hb hl hcw
  go_enter Try.func13, Try.ntmps13
  go_wp2_with (first
    | (go_at_call 32; refine H.out.mono ?_; rintro e w1 ⟨rfl, k1⟩; have K1 := Lib.hid (k1.alloc k1.size (.cells #[.pointer (some ⟨b1, 0, none⟩)] 67)); clear k1)
    | (go_at_call 33; refine (HT.out _ K1.out).mono ?_; rintro e w2 ⟨rfl, n2, c2⟩; have N2 := Lib.hid n2; have C2 := Lib.hid c2; clear n2 c2))
  go_ret2
  obtain ⟨_, h2, _, h4, _⟩ := HC.out (w2.alloc (.cells #[.string x1, .bool x2] 65))
  rw [show (w2.alloc (.cells #[.string x1, .bool x2] 65)).heap.size = w2.heap.size + 1 by simp] at h2
  have hb0 : Below w2.heap.size w2 (w2.alloc (.cells #[.string x1, .bool x2] 65)) := (Below.refl _ _).alloc (Nat.le_refl _) _
  have hb1 := hb0.trans (h4.mono hb0.size)
  exact ⟨_, rfl, h2, N2.out.below hb1, ((Ch.of_below K1.out).trans C2.out).trans (.of_below hb1)⟩
/-- The first one of a way, as the last one. -/
def turnL (ls : List (List V)) (d : Int) : List (List V) := match wayF ls d with
  | some (x :: r) => ls.set d.toNat (r ++ [x])
  | _ => ls
set_option maxRecDepth 100000 in
theorem turn_any (h : NetB n0 w p R ls lost g cp arr bs) (d : Int) : Calls Try.prog 16 #[.pointer (some ⟨p, 0, none⟩), .int .i64 d] w fun e w' => e = .returned (.int .i64 (mayF ls d)) ∧ NetB n0 w' p R (turnL ls d) lost g cp arr bs ∧ Ch n0 w w' := by
  by_cases hm : mayF ls d = 0
  · obtain ⟨i, x, r, rfl, hw, hl⟩ := mayF_zero hm
    have e1 : turnL ls (i : Int) = ls.set i (r ++ [x]) := by unfold turnL; rw [hw]; simp
    rw [hm, e1]
    clear hm hw e1
    obtain ⟨b, hb, hx, hR⟩ := h.at_ hl
    have hi : i < ls.length := (List.getElem?_eq_some_iff.1 hl).1
    have hlt : ¬ R ≤ r.length := by simp at hR; omega
    have H := Lib.hid (busy_ok h hb hl)
    obtain ⟨x1, x2⟩ := x
    have HT : Hid (∀ W, Below w.heap.size w W → Calls Try.prog 33 #[.pointer (some ⟨b.1, 0, none⟩)] W fun e w' => e = .returned (.tuple #[.agg #[.string x1, .bool x2], .int .i64 0]) ∧ (NetB n0 w' p R (ls.set i r) lost g cp arr bs ∧ Ch n0 W w') ∧ W.grownBy w' (some b.2)) := fun W hW => take_net (h.below hW) hb hl
    have lb : b.2 < w.heap.size := hx.lt.2.2
    have HP : Hid (∀ W, NetB n0 W p R (ls.set i r) lost g cp arr bs → Calls Try.prog 35 #[.pointer (some ⟨b.1, 0, none⟩), .agg #[.string x1, .bool x2]] W fun e w' => e = .returned (.int .i64 0) ∧ NetB n0 w' p R (ls.set i (r ++ [(x1, x2)])) lost g cp arr bs ∧ Ch n0 W w') := fun W hW => by
      have := put_net hW (x1, x2) hb (List.getElem?_set_self hi)
      rw [if_neg hlt, if_neg hlt, List.set_set] at this
      exact this.mono fun e w' ⟨a, b, _⟩ => ⟨a, b⟩
    obtain ⟨b1, b2⟩ := b
    clear h hb hl hx hR hi hlt
    go_enter Try.func16, Try.ntmps16
    go_wp2_with (first
      | (go_at_call 32; refine H.out.mono ?_; rintro e w1 ⟨rfl, k1⟩
         have K1 := Lib.hid (k1.alloc k1.size (.cells #[.pointer (some ⟨b1, 0, none⟩)] 67))
         have z1 := block_new w1 (.cells #[.pointer (some ⟨b1, 0, none⟩)] 67)
         have Z1 := Lib.hid z1
         have hl1 := k1.size
         have LB : Hid (w1.heap.size ≠ b2) := (by show w1.heap.size ≠ b2; omega)
         clear k1 z1 hl1)
      | (go_at_call 33; refine (HT.out _ K1.out).mono ?_; rintro e w2 ⟨rfl, ⟨n2, c2⟩, g2⟩; have z2 := fun o => (block_cell (block_old (block_grown Z1.out g2 LB.out) o)).1; clear g2; have N2 := Lib.hid (n2.below ((Below.refl _ _).alloc (Nat.le_refl _) (.cells #[.string x1, .bool x2] 65))); have C2 := Lib.hid (c2.trans (.of_below ((Below.refl _ _).alloc (Nat.le_refl _) (.cells #[.string x1, .bool x2] 65)))); clear n2 c2)
      | (go_at_call 35; refine (HP.out _ N2.out).mono ?_; rintro e w3 ⟨rfl, n3, c3⟩; have N3 := Lib.hid n3; have C3 := Lib.hid c3; clear n3 c3))
    go_ret
    exact ⟨rfl, N3.out, ((Ch.of_below K1.out).trans C2.out).trans C3.out⟩
  · have e1 : turnL ls d = ls := by
      unfold turnL
      split
      · rename_i hw; exact absurd (by unfold mayF; rw [hw]) hm
      · rfl
    rw [e1]
    have H := Lib.hid (busy_bad h hm)
    obtain ⟨m, hmm⟩ : ∃ m, m = mayF ls d := ⟨_, rfl⟩
    rw [← hmm] at H hm ⊢
    have HN := Lib.hid h
    clear h hmm e1
    go_enter Try.func16, Try.ntmps16
    go_wp2_with (go_at_call 32; refine H.out.mono ?_; rintro e w1 ⟨rfl, k1⟩)
    go_ret
    have k2 := k1.alloc k1.size (.cells #[.pointer none] 67)
    exact ⟨rfl, HN.out.below k2, .of_below k2⟩
end
end Go.Proofs.Ytnekjbdogdghnaa.Ne
