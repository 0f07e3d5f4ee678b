/-
  The contracts of send and Send. Conditions: those of the network; at most five thousand packets.
-/
import Derived.Test.YtnekjbdogdghnaaNSend
namespace Go.Proofs.Ytnekjbdogdghnaa.Ne
open Go.RowKit Go.Conc Bx
open Fr (BAt bok bv)

/-- A block that no call of this network changes. -/
def Free (n0 : Nat) (w : World) (k : Nat) : Prop := k < w.heap.size ∧ ¬ (n0 ≤ k ∧ NB w k)
theorem Free.ch {n0 k : Nat} {w w' : World} (h : Free n0 w k) (hc : Ch n0 w w') : Free n0 w' k :=
  ⟨Nat.lt_of_lt_of_le h.1 hc.size, fun ⟨x, o, y, z⟩ => h.2 ⟨x, o, (hc.block k h.1 h.2) ▸ y, z⟩⟩
theorem Free.cell {n0 : Nat} {w w' : World} {a : Addr} (h : Free n0 w a.block) (hc : Ch n0 w w') : w'.cell? a = w.cell? a := World.cell?_of_block (hc.block a.block h.1 h.2)
/-- Bytes that no call of this network changes. -/
def BFr (n0 : Nat) (w : World) (u : Value) (l : List Int) : Prop := ∃ A c, u = .slice A l.length c ∧ l.length ≤ c ∧ bok l ∧ (0 < l.length → ∃ g o, A = some ⟨g, o, none⟩ ∧ Free n0 w g ∧ ∀ i, i < l.length → w.cell? ⟨g, o + i, none⟩ = some (.int .u8 (l.getD i 0)))
theorem BFr.bat {n0 : Nat} {w : World} {u : Value} {l : List Int} (h : BFr n0 w u l) : BAt w u l := by
  obtain ⟨A, c, h1, h2, _, h3⟩ := h
  refine ⟨A, c, h1, h2, fun hp => ?_⟩
  obtain ⟨g, o, h4, h5, h6⟩ := h3 hp
  exact ⟨g, o, h4, h5.1, h6⟩
theorem BFr.bok {n0 : Nat} {w : World} {u : Value} {l : List Int} (h : BFr n0 w u l) : bok l := by
  obtain ⟨A, c, h1, h2, h, h3⟩ := h; exact h
theorem BFr.ch {n0 : Nat} {w w' : World} {u : Value} {l : List Int} (h : BFr n0 w u l) (hc : Ch n0 w w') : BFr n0 w' u l := by
  obtain ⟨A, c, h1, h2, hb, h3⟩ := h
  refine ⟨A, c, h1, h2, hb, fun hp => ?_⟩
  obtain ⟨g, o, h4, h5, h6⟩ := h3 hp
  exact ⟨g, o, h4, h5.ch hc, fun i hi => (Free.cell (a := ⟨g, o + i, none⟩) h5 hc).trans (h6 i hi)⟩
/-- Slices of bytes that no call of this network changes. -/
def SFr (n0 : Nat) (w : World) (v : Value) (ts : List (List Int)) : Prop := ∃ A c, v = .slice A ts.length c ∧ ts.length ≤ c ∧ (0 < ts.length → ∃ g o, A = some ⟨g, o, none⟩ ∧ Free n0 w g ∧ ∀ (i : Nat) (l : List Int), ts[i]? = some l → ∃ u, w.cell? ⟨g, o + i, none⟩ = some u ∧ BFr n0 w u l)
theorem SFr.ch {n0 : Nat} {w w' : World} {u : Value} {ts : List (List Int)} (h : SFr n0 w u ts) (hc : Ch n0 w w') : SFr n0 w' u ts := by
  obtain ⟨A, c, h1, h2, h3⟩ := h
  refine ⟨A, c, h1, h2, fun hp => ?_⟩
  obtain ⟨g, o, h4, h5, h6⟩ := h3 hp
  refine ⟨g, o, h4, h5.ch hc, fun i l hi => ?_⟩
  obtain ⟨u, h7, h8⟩ := h6 i l hi
  exact ⟨u, (Free.cell (a := ⟨g, o + i, none⟩) h5 hc).trans h7, h8.ch hc⟩
theorem SFr.nil (n0 : Nat) (w : World) : SFr n0 w (.slice none 0 0) [] := ⟨none, 0, rfl, Nat.le_refl _, fun h => absurd h (by decide)⟩
/-- How many are put. -/
def sendK (R : Nat) (l : List V) (m : Nat) : Nat := min m (R - l.length)
def news (ts : List (List Int)) : List V := ts.map fun t => (strOf t, false)
section
variable {n0 p R g cp : Nat} {w w' : World} {ls : List (List V)} {lost : Int} {arr : Array Value} {bs : List (Nat × Nat)}
set_option maxRecDepth 100000 in
set_option maxHeartbeats 4000000 in
theorem wsend_yes (h : NetB n0 w p R ls lost g cp arr bs) {i : Nat} {b : Nat × Nat} {l : List V} (hb : bs[i]? = some b) (hl : ls[i]? = some l) (A : Option Addr) (m c : Nat) (ts : List (List Int)) (hm : ts.length = m) (hs : SFr n0 w (.slice A m c) ts) (hn : m ≤ 5000) : Calls Try.prog 30 #[.agg #[.pointer (some ⟨b.1, 0, none⟩)], .slice A m c] w fun e w' => e = .returned (.int .i64 ((sendK R l m : Nat) : Int)) ∧ NetB n0 w' p R (ls.set i (l ++ news (ts.take (sendK R l m)))) lost g cp arr bs ∧ Ch n0 w w' := by
  obtain ⟨b', hb', hx, hR⟩ := h.at_ hl
  rw [hb] at hb'
  cases hb'
  have hi : i < ls.length := (List.getElem?_eq_some_iff.1 hl).1
  have e0 : ls.set i (l ++ news (ts.take 0)) = ls := by
    obtain ⟨hi, he⟩ := List.getElem?_eq_some_iff.1 hl
    simp only [news, List.take_zero, List.map_nil, List.append_nil]
    rw [← he]; exact List.set_getElem_self hi
  have hal : Below w.heap.size w (w.alloc (.cells #[.pointer (some ⟨b.1, 0, none⟩)] 67)) := (Below.refl _ _).alloc (Nat.le_refl _) _
  have H0 : Hid (NetB n0 (w.alloc (.cells #[.pointer (some ⟨b.1, 0, none⟩)] 67)) p R (ls.set i (l ++ news (ts.take 0))) lost g cp arr bs) := by
    show NetB _ _ _ _ _ _ _ _ _ _
    rw [e0]; exact h.below hal
  have C0 : Hid (Ch n0 w (w.alloc (.cells #[.pointer (some ⟨b.1, 0, none⟩)] 67)) ∧ w.grownBy (w.alloc (.cells #[.pointer (some ⟨b.1, 0, none⟩)] 67)) (some b.2)) := ⟨.of_below hal, grownBy_of_below _ hal⟩
  have HP : Hid (∀ W (k : List V) (x : V), k.length ≤ R → NetB n0 W p R (ls.set i k) lost g cp arr bs → Calls Try.prog 35 #[.pointer (some ⟨b.1, 0, none⟩), .agg #[.string x.1, .bool x.2]] W fun e w' => e = .returned (.int .i64 (if R ≤ k.length then 7 else 0)) ∧ (NetB n0 w' p R (if R ≤ k.length then ls.set i k else ls.set i (k ++ [x])) lost g cp arr bs ∧ Ch n0 W w') ∧ W.grownBy w' (some b.2)) := fun W k x _ hW => by
    have := put_net hW x hb (List.getElem?_set_self hi)
    rwa [List.set_set] at this
  have LB : Hid (b.2 < w.heap.size) := hx.lt.2.2
  have Z := Lib.hid (block_new w (.cells #[.pointer (some ⟨b.1, 0, none⟩)] 67))
  obtain ⟨b1, b2⟩ := b
  have HS := Lib.hid hs
  have HM := Lib.hid hm
  obtain ⟨K, hK⟩ : ∃ K, K = R - l.length := ⟨_, rfl⟩
  have HK : Hid (K = R - l.length ∧ l.length ≤ R) := ⟨hK, hR⟩
  clear h hb hl hx hR hi e0 hal hs hm hK
  go_enter Try.func30, Try.ntmps30
  go_wp2
  go_loopg [9] m (fun (gh : Nat) s9 wx => ∃ j : Nat, gh = m - j ∧ j ≤ m ∧ j ≤ K ∧ s9 = .int .i64 (j : Int) ∧ Hid (NetB n0 wx p R (ls.set i (l ++ news (ts.take j))) lost g cp arr bs) ∧ Hid (Ch n0 w wx ∧ w.grownBy wx (some b2)) ∧ Hid (wx.heap[w.heap.size]? = some (.cells #[.pointer (some ⟨b1, 0, none⟩)] 67 (0, 0))))
  case atStart => exact ⟨0, rfl, Nat.zero_le _, Nat.zero_le _, rfl, H0, C0, Z⟩
  case round =>
    clear H0 C0 Z
    obtain ⟨j, rfl, hj, hjK, rfl, HB, HC, HZ⟩ := hrel
    have z0 := (block_cell HZ.out).1
    by_cases hlt : j < m
    · have t1 : (j : Int) < (m : Int) := by omega
      have t2 : (0 : Int) ≤ (j : Int) := by omega
      have hjl : j < ts.length := by have := HM.out; omega
      obtain ⟨A0, c0, ev, _, hcs⟩ := HS.out.ch HC.out.1
      obtain ⟨g2, o2, eA, hfr, hcl⟩ := hcs (by omega)
      obtain ⟨tx, hx⟩ : ∃ x, ts[j]? = some x := ⟨_, List.getElem?_eq_getElem hjl⟩
      obtain ⟨u, hu, hbu⟩ := hcl j tx hx
      rw [HM.out] at ev
      cases ev
      subst eA
      obtain ⟨Au, nu, cu, rfl⟩ : ∃ A n c, u = .slice A n c := by obtain ⟨A, c, e, _⟩ := hbu; exact ⟨A, _, c, e⟩
      have hcv := conv_any hbu.bat hbu.bok
      have hlen : (l ++ news (ts.take j)).length = l.length + j := by simp [news]; omega
      have ht : news (ts.take (j + 1)) = news (ts.take j) ++ [(strOf tx, false)] := by
        obtain ⟨_, he⟩ := List.getElem?_eq_some_iff.1 hx
        rw [List.take_succ_eq_append_getElem hjl, he]
        simp [news]
      have hp := HP.out wr (l ++ news (ts.take j)) (strOf tx, false) (by rw [hlen]; have := HK.out; omega) HB.out
      rw [hlen, List.append_assoc, ← ht] at hp
      clear hcs hcl hx hfr hbu hlen ht
      by_cases hr : j < K
      · rw [if_neg (by have := HK.out; omega), if_neg (by have := HK.out; omega)] at hp
        have HPP := Lib.hid hp
        have e1 : IntKind.i64.wrap ((j : Int) + 1) = ((j + 1 : Nat) : Int) := by rw [IntKind.wrap_i64]; omega
        clear hp
        go_wp2_with (first
          | (go_at_call 35; (with_reducible refine HPP.out.mono ?_); rintro e w2 ⟨rfl, ⟨n2, c2⟩, g2⟩
             have N2 := Lib.hid n2
             have C2 := Lib.hid c2
             have G2 := Lib.hid g2
             clear n2 c2 g2))
        go_roundg (m - (j + 1))
        case measure => omega
        case rel => exact ⟨j + 1, rfl, hlt, hr, by first | rfl | go_num, N2, ⟨HC.out.1.trans C2.out, grownBy_trans HC.out.2 G2.out⟩, block_grown HZ.out G2.out (fun e => by have := LB.out; omega)⟩
      · rw [if_pos (by have := HK.out; omega), if_pos (by have := HK.out; omega)] at hp
        have HPP := Lib.hid hp
        have HJ : Hid (sendK R l m = j) := by show _ = _; unfold sendK; have := HK.out; omega
        clear hp
        go_wp2_with (first
          | (go_at_call 35; (with_reducible refine HPP.out.mono ?_); rintro e w2 ⟨rfl, ⟨n2, c2⟩, g2⟩
             have N2 := Lib.hid n2
             have C2 := Lib.hid c2
             clear n2 c2 g2))
        go_ret
        rw [HJ.out]
        exact ⟨rfl, N2.out, HC.out.1.trans C2.out⟩
    · obtain rfl : j = m := by omega
      have t1 : ¬ (j : Int) < (j : Int) := by omega
      have HJ : Hid (sendK R l j = j) := by show _ = _; unfold sendK; have := HK.out; omega
      go_wp2
      go_ret
      rw [HJ.out]
      exact ⟨rfl, HB.out, HC.out.1⟩
set_option maxRecDepth 100000 in
theorem wsend_nil (w : World) (A : Option Addr) (m c : Nat) (ts : List (List Int)) (hm : ts.length = m) (hs : SFr w.heap.size w (.slice A m c) ts) : Calls Try.prog 30 #[.agg #[.pointer none], .slice A m c] w fun e w' => e = .returned (.int .i64 0) ∧ Below w.heap.size w w' := by
  have hal : Below w.heap.size w (w.alloc (.cells #[.pointer none] 67)) := (Below.refl _ _).alloc (Nat.le_refl _) _
  have HAL := Lib.hid hal
  rcases Nat.eq_zero_or_pos m with h0 | h0
  · subst h0
    clear hal
    go_enter Try.func30, Try.ntmps30
    go_wp2
    refine wp_loop_rounds 1 ?_
    rw [rounds_succ]
    go_wp2
    go_ret
    exact ⟨rfl, HAL.out⟩
  · have t1 : (0 : Int) < (m : Int) := by omega
    obtain ⟨A0, c0, ev, _, hcs⟩ := hs
    obtain ⟨g2, o2, eA, hfr, hcl⟩ := hcs (by omega)
    obtain ⟨tx, hx⟩ : ∃ x, ts[0]? = some x := ⟨_, List.getElem?_eq_getElem (by omega)⟩
    obtain ⟨u, hu, hbu⟩ := hcl 0 tx hx
    cases ev
    subst eA
    have hu2 := (Free.cell (a := ⟨g2, o2 + 0, none⟩) hfr (Ch.of_below hal)).trans hu
    rw [Nat.add_zero] at hu2
    have hbu2 := hbu.ch (.of_below hal)
    obtain ⟨Au, nu, cu, rfl⟩ : ∃ A n c, u = .slice A n c := by obtain ⟨A, c, e, _⟩ := hbu; exact ⟨A, _, c, e⟩
    have hcv := conv_any hbu2.bat hbu2.bok
    clear hcs hcl hx hfr hbu hu hbu2 hm hal h0
    go_enter Try.func30, Try.ntmps30
    go_wp2
    refine wp_loop_rounds 1 ?_
    rw [rounds_succ]
    go_wp2_with (go_at_call 35; refine (put_nil _ (strOf tx, false)).mono ?_; rintro e w1 ⟨rfl, k1⟩)
    go_ret
    exact ⟨rfl, HAL.out.trans (k1.mono HAL.out.size)⟩
end
end Go.Proofs.Ytnekjbdogdghnaa.Ne
