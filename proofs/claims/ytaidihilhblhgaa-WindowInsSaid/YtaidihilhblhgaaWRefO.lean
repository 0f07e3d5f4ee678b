/-
  The reference's Out; Same at equal lists. Conditions: at most five thousand things.
-/
import Derived.Test.YtaidihilhblhgaaWOxI
import Derived.Test.YtaidihilhblhgaaWQuiet
namespace Go.Proofs.Ytaidihilhblhgaa.Wi.I
open Go.RowKit Tb

set_option maxRecDepth 100000 in
/-- The reference's Same at lists that are the same. -/
theorem same_any (w : World) (u v : Value) (l : List Int) (hu : At w u l) (hv : At w v l) (hn : l.length ≤ 5000) : Calls Try.prog 12 #[u, v] w fun e w' => e = .returned (.bool true) ∧ Below w.heap.size w w' := by
  obtain ⟨A, c, rfl, _, hcu⟩ := hu
  obtain ⟨B, d, rfl, _, hcv⟩ := hv
  obtain ⟨n, hnl⟩ : ∃ n, n = l.length := ⟨_, rfl⟩
  have HU := Lib.hid hcu
  have HV := Lib.hid hcv
  have HN := Lib.hid hnl
  rw [← hnl] at hn ⊢
  clear hcu hcv hnl
  go_enter Try.func12, Try.ntmps12
  go_wp2
  go_loopg [5] n (fun (gh : Nat) s5 wx => ∃ i : Nat, gh = n - i ∧ i ≤ n ∧ s5 = .int .i64 (i : Int) ∧ Hid (Below w.heap.size w wx))
  case atStart => exact ⟨0, rfl, Nat.zero_le _, rfl, Below.refl _ _⟩
  case round =>
    obtain ⟨i, rfl, hi, rfl, HB⟩ := hrel
    by_cases hlt : i < n
    · have t1 : (i : Int) < (n : Int) := by omega
      have t2 : (0 : Int) ≤ (i : Int) := by omega
      have e9 : IntKind.i64.wrap ((i : Int) + 1) = ((i + 1 : Nat) : Int) := by rw [IntKind.wrap_i64]; omega
      obtain ⟨r, hr⟩ : ∃ r, l[i]? = some r := ⟨_, List.getElem?_eq_getElem (by have := HN.out; omega)⟩
      obtain ⟨g, o, rfl, hg, hcu⟩ := HU.out (by have := HN.out; omega)
      obtain ⟨g', o', rfl, hg', hcv⟩ := HV.out (by have := HN.out; omega)
      have c1 : wr.cell? ⟨g, o + i, none⟩ = some (.int .i64 r) := (HB.out.cell (p := ⟨g, o + i, none⟩) hg).trans (hcu i r hr)
      have c2 : wr.cell? ⟨g', o' + i, none⟩ = some (.int .i64 r) := (HB.out.cell (p := ⟨g', o' + i, none⟩) hg').trans (hcv i r hr)
      have EM := Lib.hid (show (n - (i + 1) < n - i) by omega)
      clear hcu hcv hr hi
      go_wp2_with fail
      go_quiet (fail)
      go_wp2
      go_roundg (n - (i + 1))
      case measure => exact EM.out
      case rel => exact ⟨i + 1, rfl, hlt, by go_num, ⟨HB.out.os, HB.out.tape, HB.out.output, HB.out.size, HB.out.block⟩⟩
    · obtain rfl : i = n := by omega
      have t1 : decide ((i : Int) < (i : Int)) = false := by simp
      go_wp2
      go_ret
      exact ⟨rfl, HB.out⟩

/-- The reference's Out. -/
structure RefO (w : World) (b : Nat) (sv : Value) (a : Nat) (xs : List Int) : Prop where
  blk : Two w b 29 sv (.int .i64 (a : Int))
  row : rowOf w 0 sv xs
  le : a ≤ xs.length
  few : xs.length ≤ 5000
section
variable {w w' : World} {b a : Nat} {sv : Value} {xs : List Int}
theorem RefO.lt (h : RefO w b sv a xs) : ∀ i, Own b sv i → i < w.heap.size := fun i hi => hi.elim (fun e => e ▸ h.blk.lt) (fun e => own_lt h.row i e)
theorem RefO.keep {S : Nat → Prop} (h : RefO w b sv a xs) (hk : Kept S w w') (hs : ∀ i, Own b sv i → ¬ S i) : RefO w' b sv a xs :=
  ⟨h.blk.kept hk (hs b (.inl rfl)), own_keep h.row hk (fun i hi => hs i (.inr hi)), h.le, h.few⟩
theorem RefO.below (h : RefO w b sv a xs) (hb : Below w.heap.size w w') : RefO w' b sv a xs := h.keep (Kept.of_below (S := fun _ => False) hb) (fun _ _ h => h)
theorem RefO.form (h : RefO w b sv a xs) : ∃ A c, sv = .slice A xs.length c ∧ xs.length ≤ c := by
  obtain ⟨A, c, h1, h2, _⟩ := own_form h.row
  exact ⟨A, c, h1, h2⟩
theorem RefO.ne (h : RefO w b sv a xs) : sv.ownBlock ≠ some b := h.blk.not_row (by decide) h.row
theorem RefO.ack (h : RefO w b sv a xs) (k : Nat) (hk : k ≤ xs.length) : RefO (w.setCell ⟨b, 1, none⟩ (.int .i64 (k : Int))) b sv k xs :=
  ⟨h.blk.set1 _, own_keep h.row (Kept.of_set w ⟨b, 1, none⟩ _) (fun i hi e => h.ne (by rw [hi, show i = b from e])), hk, h.few⟩
theorem RefO.pushed {w1 : World} {A : Option Addr} {c : Nat} {m : List Int} (h : RefO w b sv a xs) (hr : rowOf w1 0 (.slice A (xs.length + m.length) c) (xs ++ m)) (hg : w.grownBy w1 sv.ownBlock) (hn : Nw w sv (.slice A (xs.length + m.length) c)) (hm : xs.length + m.length ≤ 5000) :
    RefO (w1.setCell ⟨b, 0, none⟩ (.slice A (xs.length + m.length) c)) b (.slice A (xs.length + m.length) c) a (xs ++ m) ∧ Kept (Own b sv) w (w1.setCell ⟨b, 0, none⟩ (.slice A (xs.length + m.length) c)) := by
  have h1 := h.blk.grown hg h.ne
  have hne : (Value.slice A (xs.length + m.length) c).ownBlock ≠ some b := fun e => by
    rcases hn b e with h2 | h2
    · exact h.ne h2
    · have := h.blk.lt; omega
  refine ⟨⟨h1.set0 _, own_keep hr (Kept.of_set w1 ⟨b, 0, none⟩ _) (fun i hi e => hne (by rw [hi, show i = b from e])), ?_, ?_⟩, ?_⟩
  · rw [List.length_append]; have := h.le; omega
  · rw [List.length_append]; exact hm
  · exact ((Kept.of_grown hg).mono (fun k _ hk => .inr hk)).trans' (Kept.of_set w1 ⟨b, 0, none⟩ _) (fun i _ e => .inl e)
set_option maxRecDepth 100000 in
theorem qack_any (h : RefO w b sv a xs) (x : Int) : Calls Try.prog 8 #[.pointer (some ⟨b, 0, none⟩), .int .i64 x] w fun e w' => e = .returned (.tuple #[]) ∧ RefO w' b sv (ackN a xs.length x) xs ∧ Kept (fun i => i = b) w w' := by
  have H := Lib.hid h
  have f1 := h.blk.f1
  have c1 := h.blk.c1
  have c0 := h.blk.c0
  obtain ⟨A, c, rfl, _⟩ := h.form
  obtain ⟨n, hn⟩ : ∃ n, n = xs.length := ⟨_, rfl⟩
  have HN := Lib.hid hn
  rw [← hn] at c0 ⊢
  clear hn h
  by_cases h1 : (a : Int) < x
  · by_cases h2 : x ≤ (n : Int)
    · obtain ⟨e1, e2⟩ := ackN_yes h1 h2
      obtain ⟨k, hk⟩ : ∃ k, k = ackN a n x := ⟨_, rfl⟩
      rw [← hk] at e1 e2 ⊢
      subst e1
      have HO := Lib.hid (H.out.ack k (by rw [← HN.out]; exact e2))
      rw [← HN.out] at HO
      clear hk e2
      go_enter Try.func8, Try.ntmps8
      go_wp2
      go_end0
      exact ⟨rfl, HO.out, Kept.of_set _ ⟨b, 1, none⟩ _⟩
    · rw [ackN_no (fun h => h2 h.2)]
      have H2 := H
      rw [← HN.out] at H2
      clear H
      go_enter Try.func8, Try.ntmps8
      go_wp2
      go_end0
      exact ⟨rfl, H2.out, Kept.refl _ _⟩
  · rw [ackN_no (fun h => h1 h.1)]
    have H2 := H
    rw [← HN.out] at H2
    clear H
    go_enter Try.func8, Try.ntmps8
    go_wp2
    go_end0
    exact ⟨rfl, H2.out, Kept.refl _ _⟩
set_option maxRecDepth 100000 in
set_option maxHeartbeats 1000000 in
/-- The same answer in every world behind it. -/
theorem qwindow_any (h : RefO w b sv a xs) : ∃ A c, At w (.slice A (winL xs a).length c) (winL xs a) ∧ ∀ W, Below w.heap.size w W → Calls Try.prog 13 #[.pointer (some ⟨b, 0, none⟩)] W fun e w' => e = .returned (.slice A (winL xs a).length c) ∧ Below W.heap.size W w' := by
  have hc0 := fun W (hW : Below w.heap.size w W) => (h.blk.below hW).c0
  have hc1 := fun W (hW : Below w.heap.size w W) => (h.blk.below hW).c1
  have hle := h.le
  have hfw := h.few
  obtain ⟨A0, k0, rfl, hk0⟩ := h.form
  have hat := At.of_own h.row
  obtain ⟨n, hn⟩ : ∃ n, n = xs.length := ⟨_, rfl⟩
  obtain ⟨k, hk⟩ : ∃ k, k = min 16 (n - a) := ⟨_, rfl⟩
  have hwl : (winL xs a).length = k := by rw [winL_len, ← hn, hk]
  have hC : ∀ A' c', (∀ g o, A0 = some ⟨g, o, none⟩ → 0 < k → A' = some ⟨g, o + a, none⟩) → k ≤ c' → At w (.slice A' k c') (winL xs a) := fun A' c' hA' hc' => by
    have h1 := hat.part a k (by omega) A' hA' c' hc'
    have h2 : (xs.drop a).take k = winL xs a := by
      unfold winL
      rw [hk, hn]
      rcases Nat.le_total 16 (xs.length - a) with h3 | h3
      · rw [Nat.min_eq_left h3]
      · rw [Nat.min_eq_right h3, List.take_of_length_le (by rw [List.length_drop]; omega), List.take_of_length_le (by rw [List.length_drop]; omega)]
    rw [h2] at h1
    exact h1
  rw [hwl]
  rw [← hn] at hc0 hle hfw hk0
  clear hat h hn hwl
  by_cases e0 : k0 = a
  · obtain rfl : k = 0 := by omega
    have hna : n = a := by omega
    refine ⟨A0, 0, hC A0 0 (fun g o _ hp => by omega) (Nat.le_refl _), fun W hW => ?_⟩
    have c0 := hc0 W hW
    have c1 := hc1 W hW
    subst hna
    subst e0
    clear hc0 hc1 hC hk
    go_enter Try.func13, Try.ntmps13
    go_wp2
    go_quiet (fail)
    go_wp2
    go_ret
    exact ⟨by simp, below_drewN (Below.refl _ _) _⟩
  · refine ⟨Option.map (fun x => x.add a) A0, k0 - a, hC _ _ (fun g o e _ => by rw [e, Option.map_some, Addr.add_lit]) (by omega), fun W hW => ?_⟩
    have c0 := hc0 W hW
    have c1 := hc1 W hW
    have t0 : a ≤ k0 := by omega
    clear hc0 hc1 hC
    by_cases h16 : 16 < n - a
    · obtain rfl : k = 16 := by omega
      have t1 : (16 : Int) < ((n - a : Nat) : Int) := by omega
      have t2 : 16 ≤ k0 - a := by omega
      clear hk
      go_enter Try.func13, Try.ntmps13
      go_wp2
      go_quiet (fail)
      go_wp2
      go_ret
      exact ⟨rfl, below_drewN (Below.refl _ _) _⟩
    · obtain rfl : k = n - a := by omega
      have t1 : ¬ (16 : Int) < ((n - a : Nat) : Int) := by omega
      clear hk
      go_enter Try.func13, Try.ntmps13
      go_wp2
      go_quiet (fail)
      go_wp2
      go_ret
      exact ⟨rfl, below_drewN (Below.refl _ _) _⟩
end
end Go.Proofs.Ytaidihilhblhgaa.Wi.I
