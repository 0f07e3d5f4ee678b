/-
  The contracts of a pipe's calls. Conditions: at most five thousand things said; numbers of 64 bits.
-/
import Derived.Test.YtganokcmcdkdgaaGreatUCall
namespace Go.Proofs.YtganokcmcdkdgaaGreat.Pi
open Go.RowKit Wi Tb Wi.S

theorem PX.at {w0 w w' : World} {b a rb : Nat} {s p nx : Int} {sv rv : Value} {xs : List ByteArray} {l : List Rw} (h : PX w0 w b s p sv a xs nx rv l) (hk : Kept (fun i => i = rb) w w') (hne : ¬ OwnP b sv rv rb) (h0 : w0.heap.size ≤ rb) : PX w0 w' b s p sv a xs nx rv l :=
  ⟨h.pi.keep hk (fun i hi e => hne (by rw [← e]; exact hi)), ⟨hk.os.trans h.bel.os, hk.tape.trans h.bel.tape, hk.output.trans h.bel.output, Nat.le_trans h.bel.size hk.size, fun i hi => (hk.block i (Nat.lt_of_lt_of_le hi h.bel.size) (fun e => by omega)).trans (h.bel.block i hi)⟩, h.new⟩
theorem kept5 (w : World) (b : Nat) (x0 x1 x2 x3 x4 : Value) : Kept (fun i => i = b) w (((((w.setCell ⟨b, 0, none⟩ x0).setCell ⟨b, 1, none⟩ x1).setCell ⟨b, 2, none⟩ x2).setCell ⟨b, 3, none⟩ x3).setCell ⟨b, 4, none⟩ x4) :=
  ((((Kept.of_set w ⟨b, 0, none⟩ x0).trans (Kept.of_set _ ⟨b, 1, none⟩ x1)).trans (Kept.of_set _ ⟨b, 2, none⟩ x2)).trans (Kept.of_set _ ⟨b, 3, none⟩ x3)).trans (Kept.of_set _ ⟨b, 4, none⟩ x4)
/-- Blocks that are new beside the pipe's. -/
theorem keptNew {w w1 w2 : World} {S T : Nat → Prop} (h : Kept S w w1) (k : Kept T w1 w2) (hT : ∀ i, i < w.heap.size → T i → S i) : Kept S w w2 := h.trans' k (fun i hi e => hT i hi e)
section
variable {w0 w w' : World} {b a : Nat} {s p nx : Int} {sv rv : Value} {xs : List ByteArray} {l : List Rw}
theorem PX.notNew (h : PX w0 w b s p sv a xs nx rv l) {rb : Nat} (hr : w.heap.size ≤ rb) : ¬ OwnP b sv rv rb := fun e => by have := h.pi.lt rb e; omega
set_option maxRecDepth 100000 in
theorem new_ok (w : World) (s p : Int) (h : endE s p = 0) : Calls Tryz.prog 32 #[.int .i64 s, .int .i64 p] w fun e w' => ∃ b, e = .returned (.tuple #[.pointer (some ⟨b, 0, none⟩), .int .i64 0]) ∧ PX w w' b s p (.slice none 0 0) 0 [] 0 (.slice none 0 0) [] := by
  have hc := check_any w s p
  rw [h] at hc
  have HC := Lib.hid hc
  clear hc h
  go_enter Tryz.func32, Tryz.ntmps32
  go_wp2_with (go_at_call 16; (with_reducible refine HC.out.mono ?_); rintro e w1 ⟨rfl, hb⟩; have HB := Lib.hid hb; clear hb)
  go_ret2
  refine ⟨_, rfl, PiR.new _ _ _, HB.out.alloc HB.out.size _, fun i hi => ?_⟩
  rcases hi with h1 | h1 | h1
  · rw [h1]; exact HB.out.size
  · cases h1
  · cases h1
set_option maxRecDepth 100000 in
theorem new_bad (w : World) (s p : Int) (h : ¬ endE s p = 0) : Calls Tryz.prog 32 #[.int .i64 s, .int .i64 p] w fun e w' => e = .returned (.tuple #[.pointer none, .int .i64 5]) ∧ Below w.heap.size w w' := by
  have hc := check_any w s p
  have h5 : endE s p = 5 := by unfold endE at h ⊢; split <;> simp_all
  rw [h5] at hc
  have HC := Lib.hid hc
  clear hc h h5
  go_enter Tryz.func32, Tryz.ntmps32
  go_wp2_with (go_at_call 16; (with_reducible refine HC.out.mono ?_); rintro e w1 ⟨rfl, hb⟩; have HB := Lib.hid hb; clear hb)
  go_ret2
  exact ⟨rfl, HB.out⟩
set_option maxRecDepth 100000 in
theorem say_any {A : Option Addr} {n c : Nat} {ls : List (List Int)} (h : PX w0 w b s p sv a xs nx rv l) (hsp : s ≠ p) (hv : BBF w0.heap.size w (.slice A n c) ls) (hl : xs.length + n ≤ 5000) :
    Calls Tryz.prog 33 #[.pointer (some ⟨b, 0, none⟩), .slice A n c] w fun e w' => e = .returned (.int .i64 ((xs ++ ls.map strOf).length : Int)) ∧ ∃ sv', PX w0 w' b s p sv' a (xs ++ ls.map strOf) nx rv l ∧ Kept (OwnP b sv rv) w w' ∧ Nw w sv sv' := by
  have hm := made_any h.pi
  rw [decide_eq_true hsp] at hm
  have HM := Lib.hid hm
  have HA : Hid (∀ w1, Below w.heap.size w w1 → Calls Tryz.prog 61 #[.pointer (some ⟨b, 2, none⟩), .slice A n c] w1 fun e w' => e = .returned (.tuple #[]) ∧ ∃ sv', PX w0 w' b s p sv' a (xs ++ ls.map strOf) nx rv l ∧ Kept (OwnP b sv rv) w w' ∧ Nw w sv sv') := fun w1 hb => by
    refine (add_any (h.below hb) (hv.below hb) hl).mono ?_
    rintro e w' ⟨he, sv', h1, h2, h3⟩
    exact ⟨he, sv', h1, keptP (Kept.of_below hb) h2 (Nw.refl _ _), NwT (Nw.refl _ _) h3 hb.size⟩
  obtain ⟨ys, hys⟩ : ∃ ys, ys = xs ++ ls.map strOf := ⟨_, rfl⟩
  rw [← hys] at HA ⊢
  have HS := Lib.hid (fun (W : World) (sv' : Value) (hx : PX w0 W b s p sv' a ys nx rv l) => said_any hx.pi)
  obtain ⟨q, hq⟩ : ∃ q, q = ys.length := ⟨_, rfl⟩
  rw [← hq] at HS ⊢
  clear h hsp hv hl hm hys hq
  go_enter Tryz.func33, Tryz.ntmps33
  go_wp2_with (first
    | (go_at_call 60; (with_reducible refine HM.out.mono ?_); rintro e w1 ⟨rfl, hb⟩; have HB := Lib.hid hb; clear hb)
    | (go_at_call 61; (with_reducible refine (HA.out _ HB.out).mono ?_); rintro e w2 ⟨rfl, sv', h1, h2, h3⟩; have H1 := Lib.hid h1; have H2 := Lib.hid h2; have H3 := Lib.hid h3; clear h1 h2 h3)
    | (go_at_call 62; (with_reducible refine (HS.out _ _ H1.out).mono ?_); rintro e w3 ⟨rfl, rfl⟩))
  go_ret
  exact ⟨rfl, sv', H1.out, H2.out, H3.out⟩
end
end Go.Proofs.YtganokcmcdkdgaaGreat.Pi

namespace Go.Proofs.YtganokcmcdkdgaaGreat.Pi
open Go.RowKit Wi Tb Wi.S

section
variable {w0 w w' : World} {b a : Nat} {s p nx : Int} {sv rv : Value} {xs : List ByteArray} {l : List Rw}
theorem ownB {i : Nat} (e : i = b) : OwnP b sv rv i := .inl e
theorem PiR.other {rb : Nat} {cs : Array Value} {t : TypeId} {fr : Nat × Nat} (h : PiR w b s p sv a xs nx rv l) (hr : w.heap[rb]? = some (.cells cs t fr)) (h1 : t ≠ 114) (h2 : t ≠ 9) (h3 : t ≠ 151) : ¬ OwnP b sv rv rb := fun ho => by
  rcases ho with ho | ho | ho
  · rw [ho, show w.heap[b]? = _ from h.six] at hr
    simp only [Option.some.injEq, Obj.cells.injEq] at hr
    exact h1 hr.2.1.symm
  · rcases h.o.row.2 with ⟨k3, _⟩ | ⟨g2, cap, cur, k3, _, k4, _⟩
    · rw [k3] at ho; cases ho
    · rw [k3] at ho; cases ho
      rw [k4] at hr
      simp only [Option.some.injEq, Obj.cells.injEq] at hr
      exact h2 hr.2.1.symm
  · rcases h.i.tab.2.2.2 with ⟨k3, _⟩ | ⟨g2, cap, cur, k3, _, k4, _⟩
    · rw [k3] at ho; cases ho
    · rw [k3] at ho; cases ho
      rw [k4] at hr
      simp only [Option.some.injEq, Obj.cells.injEq] at hr
      exact h3 hr.2.1.symm
set_option maxRecDepth 100000 in
theorem take_no (h : PX w0 w b s p sv a xs nx rv l) (hh : hasB l nx = false) : Calls Tryz.prog 36 #[.pointer (some ⟨b, 0, none⟩)] w fun e w' => e = .returned (.tuple #[.agg #[.int .i64 0, .int .i64 0, .int .i64 0, .int .i64 0, .slice none 0 0], .bool false]) ∧ Below w.heap.size w w' := by
  have hb0 : Below w.heap.size w (w.alloc (.cells #[.int .i64 0, .int .i64 0, .int .i64 0, .int .i64 0, .slice none 0 0] 25)) := (Below.refl _ w).alloc (Nat.le_refl _) _
  have h1 := h.below hb0
  have HE := Lib.hid (Tb.block_new w (.cells #[.int .i64 0, .int .i64 0, .int .i64 0, .int .i64 0, .slice none 0 0] 25))
  have HN := Lib.hid (none_any (w.alloc (.cells #[.int .i64 0, .int .i64 0, .int .i64 0, .int .i64 0, .slice none 0 0] 25)) b)
  have HP := Lib.hid (pop_no h1.pi.i hh)
  have HB0 := Lib.hid hb0
  clear h h1 hh hb0
  go_enter Tryz.func36, Tryz.ntmps36
  go_wp2_with (first
    | (go_at_call 69; (with_reducible refine HP.out.mono ?_); rintro e w1 ⟨rfl, hb⟩; have h2 := Tb.block_kept HE.out hb; obtain ⟨r0, r1, r2, r3, r4⟩ := blk5 h2; have fz := fro5 h2; have HB := Lib.hid (HB0.out.trans (hb.mono HB0.out.size)); clear hb h2)
    | (go_at_call 63; (with_reducible refine HN.out.mono ?_); rintro e w1 ⟨rfl, rfl⟩))
  refine bodyPost_ret (v := .tuple #[.agg #[.int .i64 0, .int .i64 0, .int .i64 0, .int .i64 0, .slice none 0 0], .bool false]) (by simp [results, Tryz.results36, go_sem, r0, r1, r2, r3, r4]) rfl ⟨rfl, ?_⟩
  exact ((((HB.out.setCell (Nat.le_refl _) _).setCell (Nat.le_refl _) _).setCell (Nat.le_refl _) _).setCell (Nat.le_refl _) _).setCell (Nat.le_refl _) _
set_option maxRecDepth 100000 in
theorem take_yes (h : PX w0 w b s p sv a xs nx rv l) (hh : hasB l nx = true) (hle : nx < 4398046511104) : Calls Tryz.prog 36 #[.pointer (some ⟨b, 0, none⟩)] w fun e w' => e = .returned (.tuple #[.agg #[.int .i64 2, .int .i64 s, .int .i64 p, .int .i64 (nx + 1), .slice none 0 0], .bool true]) ∧ ∃ rv', PX w0 w' b s p sv a xs (nx + 1) rv' (dropL l nx) ∧ Kept (OwnP b sv rv) w w' ∧ Nw w rv rv' := by
  have hb0 : Below w.heap.size w (w.alloc (.cells #[.int .i64 0, .int .i64 0, .int .i64 0, .int .i64 0, .slice none 0 0] 25)) := (Below.refl _ w).alloc (Nat.le_refl _) _
  have h1 := h.below hb0
  have H := Lib.hid h
  have HE := Lib.hid (Tb.block_new w (.cells #[.int .i64 0, .int .i64 0, .int .i64 0, .int .i64 0, .slice none 0 0] 25))
  have HN := Lib.hid (none_any (w.alloc (.cells #[.int .i64 0, .int .i64 0, .int .i64 0, .int .i64 0, .slice none 0 0] 25)) b)
  have HB0 := Lib.hid hb0
  have HP : Hid (Calls Tryz.prog 69 #[.pointer (some ⟨b, 4, none⟩)] (w.alloc (.cells #[.int .i64 0, .int .i64 0, .int .i64 0, .int .i64 0, .slice none 0 0] 25)) fun e w' => e = .returned (.tuple #[.string (rdy nx l), .bool true]) ∧ ∃ rv', PX w0 w' b s p sv a xs (nx + 1) rv' (dropL l nx) ∧ Kept (OwnP b sv rv) w w' ∧ Nw w rv rv' ∧ w'.heap[w.heap.size]? = some (.cells #[.int .i64 0, .int .i64 0, .int .i64 0, .int .i64 0, .slice none 0 0] 25 (0, 0))) := by
    refine (pop_yes h1.pi.i hh hle).mono ?_
    rintro e w1 ⟨he, rv', i1, k1, n1⟩
    have k2 : Kept (OwnP b sv rv) _ w1 := k1.mono (fun i _ hi => ownI hi)
    exact ⟨he, rv', h1.step (h1.pi.ofI i1 k1 n1) k2 (Nw.refl _ _) n1, keptNew (Kept.of_below hb0) k2 (fun i _ hi => hi), fun i hi => by
      rcases n1 i hi with h2 | h2
      · exact .inl h2
      · exact .inr (Nat.le_trans hb0.size h2), (k2.block _ (by simp) (H.out.notNew (Nat.le_refl _))).trans HE.out⟩
  obtain ⟨z, hz⟩ : ∃ z, z = rdy nx l := ⟨_, rfl⟩
  rw [← hz] at HP
  clear h h1 hh hb0 hz
  go_enter Tryz.func36, Tryz.ntmps36
  go_wp2_with (first
    | (go_at_call 69; (with_reducible refine HP.out.mono ?_); rintro e w1 ⟨rfl, rv', g1, g2, g3, g4⟩; have G1 := Lib.hid g1; have G2 := Lib.hid g2; have G3 := Lib.hid g3; have G4 := Lib.hid g4; have HA := Lib.hid (ack_any g1.pi); clear g1 g2 g3 g4)
    | (go_at_call 67; (with_reducible refine HA.out.mono ?_); rintro e w2 ⟨rfl, hb⟩; have h2 := Tb.block_kept G4.out hb; obtain ⟨r0, r1, r2, r3, r4⟩ := blk5 h2; have fz := fro5 h2; have HB := Lib.hid hb; clear hb h2)
    | (go_at_call 63; (with_reducible refine HN.out.mono ?_); rintro e w1 ⟨rfl, rfl⟩))
  refine bodyPost_ret (v := .tuple #[.agg #[.int .i64 2, .int .i64 s, .int .i64 p, .int .i64 (nx + 1), .slice none 0 0], .bool true]) (by simp [results, Tryz.results36, go_sem, r0, r1, r2, r3, r4]) rfl ⟨rfl, rv', ?_⟩
  have hk := kept5 w2 w.heap.size (.int .i64 2) (.int .i64 s) (.int .i64 p) (.int .i64 (nx + 1)) (.slice none 0 0)
  have hne : ¬ OwnP b sv rv' w.heap.size := G1.out.pi.other G4.out (by decide) (by decide) (by decide)
  exact ⟨(G1.out.below HB.out).at hk hne H.out.bel.size, keptNew (keptNew G2.out (Kept.of_below (S := fun _ => False) HB.out) (fun i _ e => e.elim)) hk (fun i hi e => by omega), G3.out⟩
end
end Go.Proofs.YtganokcmcdkdgaaGreat.Pi
