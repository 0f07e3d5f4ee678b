/-
  The contracts of a pipe's calls. Conditions: at most five thousand things said; numbers of 64 bits.
-/
import Derived.Test.YtganokcmcdkdgaaUCall
namespace Go.Proofs.Ytganokcmcdkdgaa.Pi
open Go.RowKit Wi Tb Wi.S

theorem PX.at {w0 w w' : World} {b a rb : Nat} {s p nx : Int} {sv rv : Value} {xs : List ByteArray} {l : List Rw} (h : PX w0 w b s p sv a xs nx rv l) (hk : Kept (fun i => i = rb) w w') (hne : ¬ OwnP b sv rv rb) (h0 : w0.heap.size ≤ rb) : PX w0 w' b s p sv a xs nx rv l :=
  ⟨h.pi.keep hk (fun i hi e => hne (by rw [← e]; exact hi)), ⟨hk.os.trans h.bel.os, hk.tape.trans h.bel.tape, hk.output.trans h.bel.output, Nat.le_trans h.bel.size hk.size, fun i hi => (hk.block i (Nat.lt_of_lt_of_le hi h.bel.size) (fun e => by omega)).trans (h.bel.block i hi)⟩, h.new⟩
theorem kept5 (w : World) (b : Nat) (x0 x1 x2 x3 x4 : Value) : Kept (fun i => i = b) w (((((w.setCell ⟨b, 0, none⟩ x0).setCell ⟨b, 1, none⟩ x1).setCell ⟨b, 2, none⟩ x2).setCell ⟨b, 3, none⟩ x3).setCell ⟨b, 4, none⟩ x4) :=
  ((((Kept.of_set w ⟨b, 0, none⟩ x0).trans (Kept.of_set _ ⟨b, 1, none⟩ x1)).trans (Kept.of_set _ ⟨b, 2, none⟩ x2)).trans (Kept.of_set _ ⟨b, 3, none⟩ x3)).trans (Kept.of_set _ ⟨b, 4, none⟩ x4)
/-- Blocks that are new beside the pipe's. -/
theorem keptNew {w w1 w2 : World} {S T : Nat → Prop} (h : Kept S w w1) (k : Kept T w1 w2) (hT : ∀ i, i < w.heap.size → T i → S i) : Kept S w w2 := h.trans' k (fun i hi e => hT i hi e)
section
variable {w0 w w' : World} {b a : Nat} {s p nx : Int} {sv rv : Value} {xs : List ByteArray} {l : List Rw}
theorem PX.notNew (h : PX w0 w b s p sv a xs nx rv l) {rb : Nat} (hr : w.heap.size ≤ rb) : ¬ OwnP b sv rv rb := fun e => by have := h.pi.lt rb e; omega
set_option maxRecDepth 100000 in
theorem new_ok (w : World) (s p : Int) (h : endE s p = 0) : Calls Try.prog 5 #[.int .i64 s, .int .i64 p] w fun e w' => ∃ b, e = .returned (.tuple #[.pointer (some ⟨b, 0, none⟩), .int .i64 0]) ∧ PX w w' b s p (.slice none 0 0) 0 [] 0 (.slice none 0 0) [] := by
  have hc := check_any w s p
  rw [h] at hc
  have HC := Lib.hid hc
  clear hc h
  go_enter Try.func5, Try.ntmps5
  go_wp2_with (go_at_call 24; (with_reducible refine HC.out.mono ?_); rintro e w1 ⟨rfl, hb⟩; have HB := Lib.hid hb; clear hb)
  go_ret2
  refine ⟨_, rfl, PiR.new _ _ _, HB.out.alloc HB.out.size _, fun i hi => ?_⟩
  rcases hi with h1 | h1 | h1
  · rw [h1]; exact HB.out.size
  · cases h1
  · cases h1
set_option maxRecDepth 100000 in
theorem new_bad (w : World) (s p : Int) (h : ¬ endE s p = 0) : Calls Try.prog 5 #[.int .i64 s, .int .i64 p] w fun e w' => e = .returned (.tuple #[.pointer none, .int .i64 5]) ∧ Below w.heap.size w w' := by
  have hc := check_any w s p
  have h5 : endE s p = 5 := by unfold endE at h ⊢; split <;> simp_all
  rw [h5] at hc
  have HC := Lib.hid hc
  clear hc h h5
  go_enter Try.func5, Try.ntmps5
  go_wp2_with (go_at_call 24; (with_reducible refine HC.out.mono ?_); rintro e w1 ⟨rfl, hb⟩; have HB := Lib.hid hb; clear hb)
  go_ret2
  exact ⟨rfl, HB.out⟩
set_option maxRecDepth 100000 in
theorem say_any {A : Option Addr} {n c : Nat} {ls : List (List Int)} (h : PX w0 w b s p sv a xs nx rv l) (hsp : s ≠ p) (hv : BBF w0.heap.size w (.slice A n c) ls) (hl : xs.length + n ≤ 5000) :
    Calls Try.prog 8 #[.pointer (some ⟨b, 0, none⟩), .slice A n c] w fun e w' => e = .returned (.int .i64 ((xs ++ ls.map strOf).length : Int)) ∧ ∃ sv', PX w0 w' b s p sv' a (xs ++ ls.map strOf) nx rv l ∧ Kept (OwnP b sv rv) w w' ∧ Nw w sv sv' := by
  have hm := made_any h.pi
  rw [decide_eq_true hsp] at hm
  have HM := Lib.hid hm
  have HA : Hid (∀ w1, Below w.heap.size w w1 → Calls Try.prog 26 #[.pointer (some ⟨b, 2, none⟩), .slice A n c] w1 fun e w' => e = .returned (.tuple #[]) ∧ ∃ sv', PX w0 w' b s p sv' a (xs ++ ls.map strOf) nx rv l ∧ Kept (OwnP b sv rv) w w' ∧ Nw w sv sv') := fun w1 hb => by
    refine (add_any (h.below hb) (hv.below hb) hl).mono ?_
    rintro e w' ⟨he, sv', h1, h2, h3⟩
    exact ⟨he, sv', h1, keptP (Kept.of_below hb) h2 (Nw.refl _ _), NwT (Nw.refl _ _) h3 hb.size⟩
  obtain ⟨ys, hys⟩ : ∃ ys, ys = xs ++ ls.map strOf := ⟨_, rfl⟩
  rw [← hys] at HA ⊢
  have HS := Lib.hid (fun (W : World) (sv' : Value) (hx : PX w0 W b s p sv' a ys nx rv l) => said_any hx.pi)
  obtain ⟨q, hq⟩ : ∃ q, q = ys.length := ⟨_, rfl⟩
  rw [← hq] at HS ⊢
  clear h hsp hv hl hm hys hq
  go_enter Try.func8, Try.ntmps8
  go_wp2_with (first
    | (go_at_call 25; (with_reducible refine HM.out.mono ?_); rintro e w1 ⟨rfl, hb⟩; have HB := Lib.hid hb; clear hb)
    | (go_at_call 26; (with_reducible refine (HA.out _ HB.out).mono ?_); rintro e w2 ⟨rfl, sv', h1, h2, h3⟩; have H1 := Lib.hid h1; have H2 := Lib.hid h2; have H3 := Lib.hid h3; clear h1 h2 h3)
    | (go_at_call 21; (with_reducible refine (HS.out _ _ H1.out).mono ?_); rintro e w3 ⟨rfl, rfl⟩))
  go_ret
  exact ⟨rfl, sv', H1.out, H2.out, H3.out⟩
set_option maxRecDepth 100000 in
theorem ready_no (h : PX w0 w b s p sv a xs nx rv l) (hh : hasB l nx = false) : Calls Try.prog 19 #[.pointer (some ⟨b, 0, none⟩)] w fun e w' => e = .returned (.tuple #[.slice none 0 0, .bool false]) ∧ Below w.heap.size w w' := by
  have HN := Lib.hid (none_any w b)
  have hr := ready_any h.pi.i
  rw [hh] at hr
  obtain ⟨z, hz⟩ : ∃ z, z = rdy nx l := ⟨_, rfl⟩
  rw [← hz] at hr
  have HR := Lib.hid hr
  clear hr hz h hh
  go_enter Try.func19, Try.ntmps19
  go_wp2_with (first
    | (go_at_call 35; (with_reducible refine HR.out.mono ?_); rintro e w1 ⟨rfl, hb⟩; have HB := Lib.hid hb; clear hb)
    | (go_at_call 30; (with_reducible refine HN.out.mono ?_); rintro e w1 ⟨rfl, rfl⟩))
  go_ret2
  exact ⟨rfl, HB.out⟩
set_option maxRecDepth 100000 in
theorem ready_yes (h : PX w0 w b s p sv a xs nx rv l) (hh : hasB l nx = true) : Calls Try.prog 19 #[.pointer (some ⟨b, 0, none⟩)] w fun e w' => ∃ g n c, e = .returned (.tuple #[.slice (some ⟨g, 0, none⟩) n c, .bool true]) ∧ w.heap.size ≤ g ∧ n = (rdy nx l).size ∧ BF w0.heap.size w' (.slice (some ⟨g, 0, none⟩) n c) (Fr.sb (rdy nx l)) ∧ Below w.heap.size w w' := by
  have HN := Lib.hid (none_any w b)
  have hr := ready_any h.pi.i
  rw [hh] at hr
  obtain ⟨z, hz⟩ : ∃ z, z = rdy nx l := ⟨_, rfl⟩
  rw [← hz] at hr ⊢
  have HR : Hid (Calls Try.prog 35 #[.pointer (some ⟨b, 4, none⟩)] w fun e w' => e = .returned (.tuple #[.string z, .bool true]) ∧ Below w.heap.size w w') := hr
  obtain ⟨cv, cw, hcv⟩ := str_new z
  have q1 := fun W => (hcv W w0.heap.size).1
  have Q2 := Lib.hid (fun W => (hcv W w0.heap.size).2)
  obtain ⟨m, hm⟩ : ∃ m, m = z.size := ⟨_, rfl⟩
  have HM := Lib.hid hm
  rw [← hm] at q1 Q2 ⊢
  clear hr hz h hh hcv hm
  go_enter Try.func19, Try.ntmps19
  go_wp2_with (first
    | (go_at_call 35; (with_reducible refine HR.out.mono ?_); rintro e w1 ⟨rfl, hb⟩; have HB := Lib.hid hb; clear hb)
    | (go_at_call 30; (with_reducible refine HN.out.mono ?_); rintro e w1 ⟨rfl, rfl⟩))
  go_ret2
  exact ⟨_, _, _, rfl, HB.out.size, rfl, (Q2.out w1).1, HB.out.trans ((Q2.out w1).2.mono HB.out.size)⟩
end
end Go.Proofs.Ytganokcmcdkdgaa.Pi
