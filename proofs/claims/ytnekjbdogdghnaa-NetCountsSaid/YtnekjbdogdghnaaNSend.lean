/-
  The contracts of All, send, Send, New. Conditions: those of the network.
-/
import Derived.Test.YtnekjbdogdghnaaNRow
namespace Go.Proofs.Ytnekjbdogdghnaa.Ne
open Go.RowKit Go.Conc Bx
open Fr (BAt bok bv)

theorem pc_get : ∀ (l : List V) (i : Nat) (x : V), l[i]? = some x → (pc l)[i * 2]? = some (.string x.1) ∧ (pc l)[i * 2 + 1]? = some (.bool x.2)
  | [], i, x, h => by simp at h
  | y :: r, 0, x, h => by simp at h; subst h; exact ⟨rfl, rfl⟩
  | y :: r, i + 1, x, h => by
    have ih := pc_get r i x (by simpa using h)
    have e : pc (y :: r) = .string y.1 :: .bool y.2 :: pc r := rfl
    rw [e, show (i + 1) * 2 = i * 2 + 1 + 1 by omega]
    simpa using ih
/-- The bytes of what is on its way. -/
def bys (l : List V) : List (List Int) := l.map fun x => sb x.1
theorem bys_len (l : List V) : (bys l).length = l.length := by simp [bys]
section
variable {n0 p R g cp : Nat} {w w' : World} {ls : List (List V)} {lost : Int} {arr : Array Value} {bs : List (Nat × Nat)}
set_option maxRecDepth 100000 in
theorem nAll_no (h : NetB n0 w p R ls lost g cp arr bs) {d : Int} (hd : wayF ls d = none) : Calls Try.prog 24 #[.pointer (some ⟨p, 0, none⟩), .int .i64 d] w fun e w' => e = .returned (.slice none 0 0) ∧ Below w.heap.size w w' := by
  have H := Lib.hid (way_no h hd)
  clear h hd
  have hf := fun (W : World) => fld none W
  go_enter Try.func24, Try.ntmps24
  go_wp2_with (first
    | (go_at_call 29; refine H.out.mono ?_; rintro e w1 ⟨rfl, k1⟩)
    | (go_at_call 38; refine (all_nil _).mono ?_; rintro e w2 ⟨g1, c1, rfl, k2⟩))
  refine wp_loop_rounds 1 ?_
  rw [rounds_succ]
  go_wp2
  go_ret
  exact ⟨rfl, k1.trans (k2.mono k1.size)⟩
set_option maxRecDepth 100000 in
theorem nAll_nil (w : World) (d : Int) : Calls Try.prog 24 #[.pointer none, .int .i64 d] w fun e w' => e = .returned (.slice none 0 0) ∧ Below w.heap.size w w' := by
  have hf := fun (W : World) => fld none W
  go_enter Try.func24, Try.ntmps24
  go_wp2_with (first
    | (go_at_call 29; refine (way_nil _ _).mono ?_; rintro e w1 ⟨rfl, k1⟩)
    | (go_at_call 38; refine (all_nil _).mono ?_; rintro e w2 ⟨g1, c1, rfl, k2⟩))
  refine wp_loop_rounds 1 ?_
  rw [rounds_succ]
  go_wp2
  go_ret
  exact ⟨rfl, k1.trans (k2.mono k1.size)⟩
set_option maxRecDepth 100000 in
set_option maxHeartbeats 4000000 in
theorem nAll_yes (h : NetB n0 w p R ls lost g cp arr bs) {i : Nat} {l : List V} (hl : ls[i]? = some l) : Calls Try.prog 24 #[.pointer (some ⟨p, 0, none⟩), .int .i64 (i : Int)] w fun e w' => ∃ v, e = .returned v ∧ (∃ vs, BoX w.heap.size w' v vs (bys l)) ∧ NetB n0 w' p R ls lost g cp arr bs ∧ Ch n0 w w' := by
  obtain ⟨b, hb, hx, hR⟩ := h.at_ hl
  have H := Lib.hid (way_yes h hb)
  have HA : Hid (∀ W, Below w.heap.size w W → Calls Try.prog 38 #[.pointer (some ⟨b.1, 0, none⟩)] W fun e w' => ∃ v, e = .returned v ∧ w'.ownsRow W.heap.size 65 2 v l.length (pc l) ∧ NetB n0 w' p R ls lost g cp arr bs ∧ Ch n0 W w') := fun W hW => all_net (h.below hW) hb hl
  have HR : Hid (l.length ≤ 1000) := by have := h.le.1; show _ ≤ _; omega
  obtain ⟨b1, b2⟩ := b
  have hf := fun (W : World) => fld (some ⟨b1, 0, none⟩) W
  obtain ⟨n, hn⟩ : ∃ n, n = l.length := ⟨_, rfl⟩
  have HN := Lib.hid hn
  clear h hb hl hx hR
  go_enter Try.func24, Try.ntmps24
  go_wp2_with (first
    | (go_at_call 29; refine H.out.mono ?_; rintro e w1 ⟨rfl, k1⟩; have K1 := Lib.hid k1; clear k1)
    | (go_at_call 38; refine (HA.out _ K1.out).mono ?_; rintro e w2 ⟨v2, rfl, ho, n2, c2⟩
       obtain ⟨A2, q2, rfl, _⟩ := own_form ho
       rw [← hn] at ho ⊢
       have HO := Lib.hid ho
       have N2 := Lib.hid n2
       have C2 := Lib.hid ((Ch.of_below K1.out).trans c2)
       have Z2 : Hid (w.heap.size ≤ w2.heap.size) := Nat.le_trans K1.out.size c2.size
       clear ho n2 c2))
  go_loopg [5, 14] n (fun (gh : Nat) s5 s14 wx => ∃ (j : Nat) (A5 : Option Addr) (c5 : Nat) (vs : List Value), gh = n - j ∧ j ≤ n ∧ s14 = .int .i64 (j : Int) ∧ s5 = .slice A5 j c5 ∧ Hid (BoX w2.heap.size wx (.slice A5 j c5) vs (bys (l.take j))) ∧ Hid (Below w2.heap.size w2 wx))
  case atStart => exact ⟨0, none, 0, [], rfl, Nat.zero_le _, rfl, rfl, BoX.nil _ _, Below.refl _ _⟩
  case round =>
    obtain ⟨j, A5, c5, vs, rfl, hj, rfl, rfl, HB, HW⟩ := hrel
    by_cases hlt : j < n
    · have t1 : (j : Int) < (n : Int) := by omega
      have t2 : (0 : Int) ≤ (j : Int) := by omega
      have hjl : j < l.length := by omega
      obtain ⟨⟨x1, x2⟩, hx⟩ : ∃ x, l[j]? = some x := ⟨_, List.getElem?_eq_getElem hjl⟩
      obtain ⟨r0, r1⟩ := pc_get l j _ hx
      obtain ⟨g2, rfl⟩ : ∃ g, A2 = some ⟨g, 0, none⟩ := by
        rcases HO.out.2 with ⟨_, h2⟩ | ⟨g, c, cur, h2, _⟩
        · omega
        · cases h2; exact ⟨g, rfl⟩
      have ho3 := own_below HO.out HW.out
      have d0 := ho3.cells (g := g2) rfl _ _ r0
      have d1 := ho3.cells (g := g2) rfl _ _ r1
      rw [show (Addr.mk g2 0 none).add (j * 2) = ⟨g2, j * 2, none⟩ by unfold Addr.add; split <;> simp_all] at d0
      rw [show (Addr.mk g2 0 none).add (j * 2 + 1) = ⟨g2, j * 2 + 1, none⟩ by unfold Addr.add; split <;> simp_all] at d1
      obtain ⟨cv, cw, hcw⟩ := str_new x1
      have hal : Below wr.heap.size wr (wr.alloc (.cells #[.string x1, .bool x2] 65)) := (Below.refl _ _).alloc (Nat.le_refl _) _
      obtain ⟨h1, -, h3, h4, h5⟩ := hcw (wr.alloc (.cells #[.string x1, .bool x2] 65))
      obtain ⟨W3, hW3⟩ : ∃ W3, W3 = cw (wr.alloc (.cells #[.string x1, .bool x2] 65)) := ⟨_, rfl⟩
      obtain ⟨v3, hv3⟩ : ∃ v3, v3 = cv (wr.alloc (.cells #[.string x1, .bool x2] 65)) := ⟨_, rfl⟩
      rw [← hW3, ← hv3] at h1 h3
      rw [← hW3] at h4 h5
      have hbw := hal.trans (h4.mono hal.size)
      have hlen : (bys (l.take j)).length = j := by rw [bys_len, List.length_take]; omega
      obtain ⟨A6, c6, W6, hr6, hb6, k6⟩ := HB.out.app (h3.mono (by rw [World.size_alloc]; exact Nat.le_trans HW.out.size (by omega))) hbw HW.out.size (by rw [hlen]; have := HR.out; omega)
      rw [hlen] at hr6 hb6
      have e6 : bys (l.take j) ++ [sb x1] = bys (l.take (j + 1)) := by
        obtain ⟨_, he⟩ := List.getElem?_eq_some_iff.1 hx
        rw [List.take_succ_eq_append_getElem hjl, he]
        simp [bys]
      rw [e6] at hb6
      simp only [World.size_alloc] at h1 h5 hr6
      rw [h5] at hr6
      have HR6 := Lib.hid hr6
      have HB6 := Lib.hid hb6
      have K6 : Hid (Below w2.heap.size w2 W6) := HW.out.trans k6
      have h51 := h5
      have e1 : IntKind.i64.wrap ((j : Int) + 1) = ((j + 1 : Nat) : Int) := by rw [IntKind.wrap_i64]; have := HR.out; omega
      clear hcw hW3 hv3 h3 h4 hbw hal ho3 hr6 hb6 k6 e6 hlen r0 r1 hx
      go_wp2_with (first
        | (have hq6 := HR6.out 33; refine Lib.wpList_append_run _ rfl _ _ 33 33 rfl _ _ rfl rfl (.slice A6 (j + 1) c6) W6 hq6 ?_; clear hq6))
      go_roundg (n - (j + 1))
      case measure => omega
      case rel => exact ⟨j + 1, A6, c6, _, rfl, hlt, by first | rfl | go_num, rfl, HB6, K6⟩
    · obtain rfl : j = n := by omega
      have t1 : ¬ (j : Int) < (j : Int) := by omega
      go_wp2
      go_ret
      have hb := HB.out
      rw [HN.out, List.take_length] at hb
      exact ⟨_, rfl, ⟨vs, own_mono hb.own Z2.out, hb.len, fun q u m hu hm => (hb.at_ q u m hu hm).mono Z2.out⟩, N2.out.below HW.out, C2.out.trans (.of_below HW.out)⟩
end
end Go.Proofs.Ytnekjbdogdghnaa.Ne
