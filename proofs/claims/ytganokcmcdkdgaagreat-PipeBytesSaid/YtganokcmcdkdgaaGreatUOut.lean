/-
  What goes out: in memory; the contracts of all its calls. Conditions: at most five thousand things.
-/
import Derived.Test.YtganokcmcdkdgaaGreatPZ5
import Derived.Test.YtganokcmcdkdgaaGreatPZ4
namespace Go.Proofs.YtganokcmcdkdgaaGreat.Wi.S
open Go.RowKit Tb

structure OutR (w : World) (b : Nat) (R : R4) (sv : Value) (a : Nat) (xs : List E) : Prop where
  blk : TwO w b R sv (.int .i64 (a : Int))
  row : rowOf w 0 sv xs
  le : a ≤ xs.length
  few : xs.length ≤ 5000
section
variable {w w' : World} {b a : Nat} {R : R4} {sv : Value} {xs : List E}
theorem OutR.lt (h : OutR w b R sv a xs) : ∀ i, Own b sv i → i < w.heap.size := fun i hi => hi.elim (fun e => e ▸ h.blk.lt) (fun e => own_lt h.row i e)
theorem OutR.keep {S : Nat → Prop} (h : OutR w b R sv a xs) (hk : Kept S w w') (hs : ∀ i, Own b sv i → ¬ S i) : OutR w' b R sv a xs :=
  ⟨h.blk.kept hk (hs b (.inl rfl)), own_keep h.row hk (fun i hi => hs i (.inr hi)), h.le, h.few⟩
theorem OutR.below (h : OutR w b R sv a xs) (hb : Below w.heap.size w w') : OutR w' b R sv a xs := h.keep (Kept.of_below (S := fun _ => False) hb) (fun _ _ h => h)
theorem OutR.form (h : OutR w b R sv a xs) : ∃ A c, sv = .slice A xs.length c ∧ xs.length ≤ c := by
  obtain ⟨A, c, h1, h2, _⟩ := own_form h.row
  exact ⟨A, c, h1, h2⟩
theorem OutR.ne (h : OutR w b R sv a xs) : sv.ownBlock ≠ some b := h.blk.not_row (by decide) h.row
/-- How many are acked. -/
def ackN (a n : Nat) (x : Int) : Nat := if (a : Int) < x ∧ x ≤ (n : Int) then x.toNat else a
theorem ackN_no {a n : Nat} {x : Int} (h : ¬ ((a : Int) < x ∧ x ≤ (n : Int))) : ackN a n x = a := by unfold ackN; rw [if_neg h]
theorem ackN_yes {a n : Nat} {x : Int} (h1 : (a : Int) < x) (h2 : x ≤ (n : Int)) : ((ackN a n x : Nat) : Int) = x ∧ ackN a n x ≤ n := by unfold ackN; rw [if_pos ⟨h1, h2⟩]; omega
theorem ackN_le {a n : Nat} {x : Int} (h : a ≤ n) : ackN a n x ≤ n ∧ a ≤ ackN a n x := by unfold ackN; split <;> omega
theorem OutR.ack (h : OutR w b R sv a xs) (k : Nat) (hk : k ≤ xs.length) : OutR (w.setCell ⟨b, 3, none⟩ (.int .i64 (k : Int))) b R sv k xs :=
  ⟨h.blk.set1 _, own_keep h.row (Kept.of_set w ⟨b, 3, none⟩ _) (fun i hi e => h.ne (by rw [hi, show i = b from e])), hk, h.few⟩
/-- The window. -/
def winL (xs : List E) (a : Nat) : List E := (xs.drop a).take 16
theorem winL_len (xs : List E) (a : Nat) : (winL xs a).length = min 16 (xs.length - a) := by unfold winL; rw [List.length_take, List.length_drop]

set_option maxRecDepth 100000 in
theorem none_some (w : World) (b : Nat) : Calls Tryz.prog 91 #[.pointer (some ⟨b, 2, none⟩)] w fun e w' => e = .returned (.pointer (some ⟨b, 2, none⟩)) ∧ w = w' := by
  go_enter Tryz.func91, Tryz.ntmps91
  go_wp2
  go_ret
  exact ⟨rfl, rfl⟩
set_option maxRecDepth 100000 in
theorem len_any (h : OutR w b R sv a xs) : Calls Tryz.prog 88 #[.pointer (some ⟨b, 2, none⟩)] w fun e w' => e = .returned (.int .i64 (xs.length : Int)) ∧ w = w' := by
  have HN := Lib.hid (none_some w b)
  obtain ⟨A, c, rfl, _⟩ := h.form
  have c0 := h.blk.c0
  obtain ⟨n, hn⟩ : ∃ n, n = xs.length := ⟨_, rfl⟩
  rw [← hn] at c0 ⊢
  clear hn h
  go_enter Tryz.func88, Tryz.ntmps88
  go_wp2_with (go_at_call 91; refine HN.out.mono ?_; rintro e w1 ⟨rfl, rfl⟩)
  go_ret
  exact ⟨rfl, rfl⟩
set_option maxRecDepth 100000 in
theorem acked_any (h : OutR w b R sv a xs) : Calls Tryz.prog 89 #[.pointer (some ⟨b, 2, none⟩)] w fun e w' => e = .returned (.int .i64 (a : Int)) ∧ w = w' := by
  have HN := Lib.hid (none_some w b)
  have c1 := h.blk.c1
  clear h
  go_enter Tryz.func89, Tryz.ntmps89
  go_wp2_with (go_at_call 91; refine HN.out.mono ?_; rintro e w1 ⟨rfl, rfl⟩)
  go_ret
  exact ⟨rfl, rfl⟩
set_option maxRecDepth 100000 in
theorem waiting_any (h : OutR w b R sv a xs) : Calls Tryz.prog 70 #[.pointer (some ⟨b, 2, none⟩)] w fun e w' => e = .returned (.int .i64 ((xs.length - a : Nat) : Int)) ∧ w = w' := by
  have HL := Lib.hid (len_any h)
  have HA := Lib.hid (acked_any h)
  have hle := h.le
  have hfw := h.few
  obtain ⟨n, hn⟩ : ∃ n, n = xs.length := ⟨_, rfl⟩
  rw [← hn] at HL hle hfw ⊢
  have e1 : IntKind.i64.wrap ((n : Int) - (a : Int)) = ((n - a : Nat) : Int) := by rw [IntKind.wrap_i64]; omega
  clear hn h
  go_enter Tryz.func70, Tryz.ntmps70
  go_wp2_with (first
    | (go_at_call 88; refine HL.out.mono ?_; rintro e w1 ⟨rfl, rfl⟩)
    | (go_at_call 89; refine HA.out.mono ?_; rintro e w1 ⟨rfl, rfl⟩))
  go_ret
  exact ⟨rfl, rfl⟩
set_option maxRecDepth 100000 in
theorem ack_any (h : OutR w b R sv a xs) (x : Int) : Calls Tryz.prog 68 #[.pointer (some ⟨b, 2, none⟩), .int .i64 x] w fun e w' => e = .returned (.int .i64 ((ackN a xs.length x : Nat) : Int)) ∧ OutR w' b R sv (ackN a xs.length x) xs ∧ Kept (fun i => i = b) w w' := by
  have HL := Lib.hid (len_any h)
  have HA := Lib.hid (acked_any h)
  have H := Lib.hid h
  have f1 := h.blk.f1
  have c1 := h.blk.c1
  obtain ⟨n, hn⟩ : ∃ n, n = xs.length := ⟨_, rfl⟩
  have HN := Lib.hid hn
  rw [← hn] at HL ⊢
  clear hn h
  by_cases h1 : (a : Int) < x
  · by_cases h2 : x ≤ (n : Int)
    · obtain ⟨e1, e2⟩ := ackN_yes h1 h2
      obtain ⟨k, hk⟩ : ∃ k, k = ackN a n x := ⟨_, rfl⟩
      rw [← hk] at e1 e2 ⊢
      subst e1
      have HO := Lib.hid (H.out.ack k (by rw [← HN.out]; exact e2))
      have HA2 := Lib.hid (acked_any HO.out)
      clear hk e2 H
      go_enter Tryz.func68, Tryz.ntmps68
      go_wp2_with (first
        | (go_at_call 88; refine HL.out.mono ?_; rintro e w1 ⟨rfl, rfl⟩)
        | (go_at_call 89; (with_reducible refine HA.out.mono ?_); rintro e w1 ⟨rfl, rfl⟩)
        | (go_at_call 89; (with_reducible refine HA2.out.mono ?_); rintro e w1 ⟨rfl, rfl⟩))
      go_ret
      exact ⟨rfl, HO.out, Kept.of_set _ ⟨b, 3, none⟩ _⟩
    · rw [ackN_no (fun h => h2 h.2)]
      go_enter Tryz.func68, Tryz.ntmps68
      go_wp2_with (first
        | (go_at_call 88; refine HL.out.mono ?_; rintro e w1 ⟨rfl, rfl⟩)
        | (go_at_call 89; (with_reducible refine HA.out.mono ?_); rintro e w1 ⟨rfl, rfl⟩))
      go_ret
      exact ⟨rfl, H.out, Kept.refl _ _⟩
  · rw [ackN_no (fun h => h1 h.1)]
    go_enter Tryz.func68, Tryz.ntmps68
    go_wp2_with (first
      | (go_at_call 88; refine HL.out.mono ?_; rintro e w1 ⟨rfl, rfl⟩)
      | (go_at_call 89; (with_reducible refine HA.out.mono ?_); rintro e w1 ⟨rfl, rfl⟩))
    go_ret
    exact ⟨rfl, H.out, Kept.refl _ _⟩
theorem OutR.pushed {w1 : World} {A : Option Addr} {c : Nat} {m : List E} (h : OutR w b R sv a xs) (hr : rowOf w1 0 (.slice A (xs.length + m.length) c) (xs ++ m)) (hg : w.grownBy w1 sv.ownBlock) (hn : Nw w sv (.slice A (xs.length + m.length) c)) (hm : xs.length + m.length ≤ 5000) :
    OutR (w1.setCell ⟨b, 2, none⟩ (.slice A (xs.length + m.length) c)) b R (.slice A (xs.length + m.length) c) a (xs ++ m) ∧ Kept (Own b sv) w (w1.setCell ⟨b, 2, none⟩ (.slice A (xs.length + m.length) c)) := by
  have h1 := h.blk.grown hg h.ne
  have hne : (Value.slice A (xs.length + m.length) c).ownBlock ≠ some b := fun e => by
    rcases hn b e with h2 | h2
    · exact h.ne h2
    · have := h.blk.lt; omega
  refine ⟨⟨h1.set0 _, own_keep hr (Kept.of_set w1 ⟨b, 2, none⟩ _) (fun i hi e => hne (by rw [hi, show i = b from e])), ?_, ?_⟩, ?_⟩
  · rw [List.length_append]; have := h.le; omega
  · rw [List.length_append]; exact hm
  · exact ((Kept.of_grown hg).mono (fun k _ hk => .inr hk)).trans' (Kept.of_set w1 ⟨b, 2, none⟩ _) (fun i _ e => .inl e)
set_option maxRecDepth 100000 in
theorem push_any {v : Value} {m : List E} (h : OutR w b R sv a xs) (hv : At w v m) (hm : xs.length + m.length ≤ 5000) : Calls Tryz.prog 87 #[.pointer (some ⟨b, 2, none⟩), v] w fun e w' => e = .returned (.int .i64 ((xs.length + m.length : Nat) : Int)) ∧ ∃ sv', OutR w' b R sv' a (xs ++ m) ∧ Kept (Own b sv) w w' ∧ Nw w sv sv' := by
  obtain ⟨A, c, w1, hr, ho, hg, hn⟩ := app_any w 0 sv xs h.row v m hv (by omega) (Nat.zero_le _)
  have HP := Lib.hid (h.pushed ho hg hn hm)
  have HNW := Lib.hid hn
  have h1 := h.blk.grown hg h.ne
  have c0 := h.blk.c0
  have f0 := h1.f0
  have d0 := h1.c0
  have e0 := (h1.set0 (.slice A (xs.length + m.length) c)).c0
  obtain ⟨A0, k0, rfl, _⟩ := h.form
  obtain ⟨Am, km, rfl⟩ := hv.form
  clear h ho hg hn h1 hv
  generalize xs.length = n at *
  generalize m.length = q at *
  go_enter Tryz.func87, Tryz.ntmps87
  go_wp2_with (at_builtin; refine wpList_app_run _ rfl _ _ 87 rfl (.slice A0 n k0) (.slice Am q km) rfl rfl (.slice A (n + q) c) w1 (hr _) ?_)
  go_ret
  exact ⟨rfl, _, HP.out.1, HP.out.2, HNW.out⟩
set_option maxRecDepth 100000 in
set_option maxHeartbeats 1000000 in
theorem window_any (h : OutR w b R sv a xs) : Calls Tryz.prog 64 #[.pointer (some ⟨b, 2, none⟩)] w fun e w' => ∃ A c, e = .returned (.tuple #[.int .i64 (a : Int), .slice A (winL xs a).length c]) ∧ rowOf w' w.heap.size (.slice A (winL xs a).length c) (winL xs a) ∧ Below w.heap.size w w' := by
  have HN := Lib.hid (none_some w b)
  have HA := Lib.hid (acked_any h)
  have HW := Lib.hid (waiting_any h)
  have c0 := h.blk.c0
  have hle := h.le
  have hfw := h.few
  obtain ⟨A0, k0, rfl, hk0⟩ := h.form
  have hat := At.of_own h.row
  obtain ⟨n, hn⟩ : ∃ n, n = xs.length := ⟨_, rfl⟩
  obtain ⟨k, hk⟩ : ∃ k, k = min 16 (n - a) := ⟨_, rfl⟩
  have hwl : (winL xs a).length = k := by rw [winL_len, ← hn, hk]
  have HC : Hid (∀ A' c', (∀ g o, A0 = some ⟨g, o, none⟩ → 0 < k → A' = some ⟨g, o + a, none⟩) → k ≤ c' → Calls Tryz.prog 90 #[.slice A' k c'] w fun e w' => ∃ A c, e = .returned (.slice A k c) ∧ rowOf w' w.heap.size (.slice A k c) (winL xs a) ∧ Below w.heap.size w w') := fun A' c' hA' hc' => by
    have h1 := hat.part a k (by omega) A' hA' c' hc'
    have h2 : (xs.drop a).take k = winL xs a := by
      unfold winL
      rw [hk, hn]
      rcases Nat.le_total 16 (xs.length - a) with h3 | h3
      · rw [Nat.min_eq_left h3]
      · rw [Nat.min_eq_right h3, List.take_of_length_le (by rw [List.length_drop]; omega), List.take_of_length_le (by rw [List.length_drop]; omega)]
    rw [h2] at h1
    have h4 := clone_any w _ _ h1 (by omega)
    rw [hwl] at h4
    exact h4
  rw [hwl]
  rw [← hn] at c0 hle hfw hk0 HW
  clear hat h
  have t1 : (if (16 : Int) < ((n - a : Nat) : Int) then (16 : Int) else ((n - a : Nat) : Int)) = (k : Int) := by split <;> omega
  have t2 : min ((n - a : Nat) : Int) 16 = (k : Int) := by omega
  have t3 : IntKind.i64.wrap ((a : Int) + (k : Int)) = ((a + k : Nat) : Int) := by rw [IntKind.wrap_i64]; omega
  have t4 : a + k ≤ k0 := by omega
  have HC1 := Lib.hid (fun (h0 : k = 0) => HC.out A0 0 (fun g o _ hp => by omega) (by omega))
  have HC2 := Lib.hid (HC.out (Option.map (fun x => x.add a) A0) (k0 - a) (fun g o e _ => by rw [e, Option.map_some, Addr.add_lit]) (by omega))
  clear hk hn hwl HC
  go_enter Tryz.func64, Tryz.ntmps64
  go_wp2_with (first
    | (go_at_call 91; refine HN.out.mono ?_; rintro e w1 ⟨rfl, rfl⟩)
    | (go_at_call 70; refine HW.out.mono ?_; rintro e w1 ⟨rfl, rfl⟩)
    | (go_at_call 89; refine HA.out.mono ?_; rintro e w1 ⟨rfl, rfl⟩))
  all_goals
    go_wp2_with (first
      | (go_at_call 90; (with_reducible refine HC2.out.mono ?_); rintro e w1 ⟨A1, c1, rfl, h1, h2⟩; have H1 := Lib.hid h1; have H2 := Lib.hid h2; clear h1 h2)
      | (go_at_call 90; (refine (HC1.out ?_).mono ?_); · omega
         rintro e w1 ⟨A1, c1, rfl, h1, h2⟩; have H1 := Lib.hid h1; have H2 := Lib.hid h2; clear h1 h2))
    go_ret2
    exact ⟨_, _, rfl, H1.out, H2.out⟩
end
end Go.Proofs.YtganokcmcdkdgaaGreat.Wi.S
