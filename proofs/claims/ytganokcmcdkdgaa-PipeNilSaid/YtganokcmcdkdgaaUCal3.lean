/-
  The contracts of Take, Restore and Hear. Conditions: numbers of 64 bits.
-/
import Derived.Test.YtganokcmcdkdgaaUCal2
namespace Go.Proofs.Ytganokcmcdkdgaa.Pi
open Go.RowKit Wi Tb Wi.S

section
variable {w0 w w' : World} {b a : Nat} {s p nx : Int} {sv rv : Value} {xs : List ByteArray} {l : List Rw}
theorem ownB {i : Nat} (e : i = b) : OwnP b sv rv i := .inl e
theorem PiR.other {rb : Nat} {cs : Array Value} {t : TypeId} {fr : Nat × Nat} (h : PiR w b s p sv a xs nx rv l) (hr : w.heap[rb]? = some (.cells cs t fr)) (h1 : t ≠ 79) (h2 : t ≠ 9) (h3 : t ≠ 110) : ¬ OwnP b sv rv rb := fun ho => by
  rcases ho with ho | ho | ho
  · rw [ho, show w.heap[b]? = _ from h.six] at hr
    simp only [Option.some.injEq, Obj.cells.injEq] at hr
    exact h1 hr.2.1.symm
  · rcases h.o.row.2 with ⟨k3, _⟩ | ⟨g2, cap, cur, k3, _, k4, _⟩
    · rw [k3] at ho; cases ho
    · rw [k3] at ho; cases ho
      rw [k4] at hr
      simp only [Option.some.injEq, Obj.cells.injEq] at hr
      exact h2 hr.2.1.symm
  · rcases h.i.tab.2.2.2 with ⟨k3, _⟩ | ⟨g2, cap, cur, k3, _, k4, _⟩
    · rw [k3] at ho; cases ho
    · rw [k3] at ho; cases ho
      rw [k4] at hr
      simp only [Option.some.injEq, Obj.cells.injEq] at hr
      exact h3 hr.2.1.symm
set_option maxRecDepth 100000 in
theorem take_no (h : PX w0 w b s p sv a xs nx rv l) (hh : hasB l nx = false) : Calls Try.prog 14 #[.pointer (some ⟨b, 0, none⟩)] w fun e w' => e = .returned (.tuple #[.agg #[.int .i64 0, .int .i64 0, .int .i64 0, .int .i64 0, .slice none 0 0], .bool false]) ∧ Below w.heap.size w w' := by
  have hb0 : Below w.heap.size w (w.alloc (.cells #[.int .i64 0, .int .i64 0, .int .i64 0, .int .i64 0, .slice none 0 0] 42)) := (Below.refl _ w).alloc (Nat.le_refl _) _
  have h1 := h.below hb0
  have HE := Lib.hid (Tb.block_new w (.cells #[.int .i64 0, .int .i64 0, .int .i64 0, .int .i64 0, .slice none 0 0] 42))
  have HN := Lib.hid (none_any (w.alloc (.cells #[.int .i64 0, .int .i64 0, .int .i64 0, .int .i64 0, .slice none 0 0] 42)) b)
  have HP := Lib.hid (pop_no h1.pi.i hh)
  have HB0 := Lib.hid hb0
  clear h h1 hh hb0
  go_enter Try.func14, Try.ntmps14
  go_wp2_with (first
    | (go_at_call 31; (with_reducible refine HP.out.mono ?_); rintro e w1 ⟨rfl, hb⟩; have h2 := Tb.block_kept HE.out hb; obtain ⟨r0, r1, r2, r3, r4⟩ := blk5 h2; have fz := fro5 h2; have HB := Lib.hid (HB0.out.trans (hb.mono HB0.out.size)); clear hb h2)
    | (go_at_call 30; (with_reducible refine HN.out.mono ?_); rintro e w1 ⟨rfl, rfl⟩))
  refine bodyPost_ret (v := .tuple #[.agg #[.int .i64 0, .int .i64 0, .int .i64 0, .int .i64 0, .slice none 0 0], .bool false]) (by simp [results, Try.results14, go_sem, r0, r1, r2, r3, r4]) rfl ⟨rfl, ?_⟩
  exact ((((HB.out.setCell (Nat.le_refl _) _).setCell (Nat.le_refl _) _).setCell (Nat.le_refl _) _).setCell (Nat.le_refl _) _).setCell (Nat.le_refl _) _
set_option maxRecDepth 100000 in
theorem take_yes (h : PX w0 w b s p sv a xs nx rv l) (hh : hasB l nx = true) (hle : nx < 4398046511104) : Calls Try.prog 14 #[.pointer (some ⟨b, 0, none⟩)] w fun e w' => e = .returned (.tuple #[.agg #[.int .i64 2, .int .i64 s, .int .i64 p, .int .i64 (nx + 1), .slice none 0 0], .bool true]) ∧ ∃ rv', PX w0 w' b s p sv a xs (nx + 1) rv' (dropL l nx) ∧ Kept (OwnP b sv rv) w w' ∧ Nw w rv rv' := by
  have hb0 : Below w.heap.size w (w.alloc (.cells #[.int .i64 0, .int .i64 0, .int .i64 0, .int .i64 0, .slice none 0 0] 42)) := (Below.refl _ w).alloc (Nat.le_refl _) _
  have h1 := h.below hb0
  have H := Lib.hid h
  have HE := Lib.hid (Tb.block_new w (.cells #[.int .i64 0, .int .i64 0, .int .i64 0, .int .i64 0, .slice none 0 0] 42))
  have HN := Lib.hid (none_any (w.alloc (.cells #[.int .i64 0, .int .i64 0, .int .i64 0, .int .i64 0, .slice none 0 0] 42)) b)
  have HB0 := Lib.hid hb0
  have HP : Hid (Calls Try.prog 31 #[.pointer (some ⟨b, 4, none⟩)] (w.alloc (.cells #[.int .i64 0, .int .i64 0, .int .i64 0, .int .i64 0, .slice none 0 0] 42)) fun e w' => e = .returned (.tuple #[.string (rdy nx l), .bool true]) ∧ ∃ rv', PX w0 w' b s p sv a xs (nx + 1) rv' (dropL l nx) ∧ Kept (OwnP b sv rv) w w' ∧ Nw w rv rv' ∧ w'.heap[w.heap.size]? = some (.cells #[.int .i64 0, .int .i64 0, .int .i64 0, .int .i64 0, .slice none 0 0] 42 (0, 0))) := by
    refine (pop_yes h1.pi.i hh hle).mono ?_
    rintro e w1 ⟨he, rv', i1, k1, n1⟩
    have k2 : Kept (OwnP b sv rv) _ w1 := k1.mono (fun i _ hi => ownI hi)
    exact ⟨he, rv', h1.step (h1.pi.ofI i1 k1 n1) k2 (Nw.refl _ _) n1, keptNew (Kept.of_below hb0) k2 (fun i _ hi => hi), fun i hi => by
      rcases n1 i hi with h2 | h2
      · exact .inl h2
      · exact .inr (Nat.le_trans hb0.size h2), (k2.block _ (by simp) (H.out.notNew (Nat.le_refl _))).trans HE.out⟩
  obtain ⟨z, hz⟩ : ∃ z, z = rdy nx l := ⟨_, rfl⟩
  rw [← hz] at HP
  clear h h1 hh hb0 hz
  go_enter Try.func14, Try.ntmps14
  go_wp2_with (first
    | (go_at_call 31; (with_reducible refine HP.out.mono ?_); rintro e w1 ⟨rfl, rv', g1, g2, g3, g4⟩; have G1 := Lib.hid g1; have G2 := Lib.hid g2; have G3 := Lib.hid g3; have G4 := Lib.hid g4; have HA := Lib.hid (ack_any g1.pi); clear g1 g2 g3 g4)
    | (go_at_call 28; (with_reducible refine HA.out.mono ?_); rintro e w2 ⟨rfl, hb⟩; have h2 := Tb.block_kept G4.out hb; obtain ⟨r0, r1, r2, r3, r4⟩ := blk5 h2; have fz := fro5 h2; have HB := Lib.hid hb; clear hb h2)
    | (go_at_call 30; (with_reducible refine HN.out.mono ?_); rintro e w1 ⟨rfl, rfl⟩))
  refine bodyPost_ret (v := .tuple #[.agg #[.int .i64 2, .int .i64 s, .int .i64 p, .int .i64 (nx + 1), .slice none 0 0], .bool true]) (by simp [results, Try.results14, go_sem, r0, r1, r2, r3, r4]) rfl ⟨rfl, rv', ?_⟩
  have hk := kept5 w2 w.heap.size (.int .i64 2) (.int .i64 s) (.int .i64 p) (.int .i64 (nx + 1)) (.slice none 0 0)
  have hne : ¬ OwnP b sv rv' w.heap.size := G1.out.pi.other G4.out (by decide) (by decide) (by decide)
  exact ⟨(G1.out.below HB.out).at hk hne H.out.bel.size, keptNew (keptNew G2.out (Kept.of_below (S := fun _ => False) HB.out) (fun i _ e => e.elim)) hk (fun i hi e => by omega), G3.out⟩
set_option maxRecDepth 100000 in
theorem restore_bad (h : PX w0 w b s p sv a xs nx rv l) (hsp : s ≠ p) (v : Value) (hv : ∃ A n c, v = .slice A n c) (x : Int) (hx : x < 0 ∨ 1099511627776 < x) : Calls Try.prog 18 #[.pointer (some ⟨b, 0, none⟩), v, .int .i64 x] w fun e w' => e = .returned (.int .i64 1) ∧ Below w.heap.size w w' := by
  have hm := made_any h.pi
  rw [decide_eq_true hsp] at hm
  have HM := Lib.hid hm
  have HS := Lib.hid (fun W => start_bad W b x hx)
  obtain ⟨A, n, c, rfl⟩ := hv
  clear h hsp hm hx
  go_enter Try.func18, Try.ntmps18
  go_wp2_with (first
    | (go_at_call 25; (with_reducible refine HM.out.mono ?_); rintro e w1 ⟨rfl, hb⟩; have HB := Lib.hid hb; clear hb)
    | (go_at_call 34; (with_reducible refine (HS.out _).mono ?_); rintro e w2 ⟨rfl, rfl⟩))
  go_ret
  exact ⟨rfl, HB.out⟩
set_option maxRecDepth 100000 in
theorem restore_ok {A : Option Addr} {n c : Nat} {ls : List (List Int)} (h : PX w0 w b s p sv a xs nx rv l) (hsp : s ≠ p) (hv : BBF w0.heap.size w (.slice A n c) ls) (hl : n ≤ 5000) (x : Int) (hx0 : 0 ≤ x) (hx1 : x ≤ 1099511627776) :
    Calls Try.prog 18 #[.pointer (some ⟨b, 0, none⟩), .slice A n c, .int .i64 x] w fun e w' => e = .returned (.int .i64 0) ∧ ∃ sv' rv', PX w0 w' b s p sv' 0 (ls.map strOf) x rv' [] ∧ Kept (OwnP b sv rv) w w' := by
  have hm := made_any h.pi
  rw [decide_eq_true hsp] at hm
  have HM := Lib.hid hm
  have H := Lib.hid h
  have HS : Hid (∀ W, Below w.heap.size w W → Calls Try.prog 34 #[.pointer (some ⟨b, 4, none⟩), .int .i64 x] W fun e w' => e = .returned (.int .i64 0) ∧ PX w0 w' b s p sv a xs x (.slice none 0 0) [] ∧ Kept (OwnP b sv rv) w w') := fun W hW => by
    have h1 := h.below hW
    refine (start_ok h1.pi.i x hx0 hx1).mono ?_
    rintro e w1 ⟨he, i1, k1⟩
    have n1 : Nw W rv (.slice none 0 0) := fun i hi => by cases hi
    have k2 : Kept (Wi.Own b rv) W w1 := k1.mono (fun i _ hi => .inl hi)
    exact ⟨he, h1.step (h1.pi.ofI i1 k2 n1) (k2.mono (fun i _ hi => ownI hi)) (Nw.refl _ _) n1, (Kept.of_below hW).trans' k2 (fun i _ hi => ownI hi)⟩
  have HZ : Hid (∀ W, PX w0 W b s p sv a xs x (.slice none 0 0) [] → PX w0 ((W.setCell ⟨b, 2, none⟩ (.slice none 0 0)).setCell ⟨b, 3, none⟩ (.int .i64 0)) b s p (.slice none 0 0) 0 [] x (.slice none 0 0) [] ∧ Kept (fun i => i = b) W ((W.setCell ⟨b, 2, none⟩ (.slice none 0 0)).setCell ⟨b, 3, none⟩ (.int .i64 0))) := fun W hX => by
    have hk : Kept (fun i => i = b) W ((W.setCell ⟨b, 2, none⟩ (.slice none 0 0)).setCell ⟨b, 3, none⟩ (.int .i64 0)) := (Kept.of_set W ⟨b, 2, none⟩ _).trans (Kept.of_set _ ⟨b, 3, none⟩ _)
    have h6 := (hX.pi.six.set2 (.slice none 0 0)).set3 (.int .i64 0)
    have n1 : Nw W sv (.slice none 0 0) := fun i hi => by cases hi
    have k2 : Kept (Wi.Own b sv) W _ := hk.mono (fun i _ hi => .inl hi)
    have o2 : OutR ((W.setCell ⟨b, 2, none⟩ (.slice none 0 0)).setCell ⟨b, 3, none⟩ (.int .i64 0)) b (.int .i64 s, .int .i64 p, .slice none 0 0, .int .i64 x) (.slice none 0 0) 0 [] := ⟨h6, World.ownsRow_nil _ _ _ _, Nat.le_refl _, Nat.zero_le _⟩
    exact ⟨hX.step (hX.pi.ofO o2 k2 n1) (k2.mono (fun i _ hi => ownO hi)) n1 (Nw.refl _ _), hk⟩
  have HA : Hid (∀ W, PX w0 W b s p (.slice none 0 0) 0 [] x (.slice none 0 0) [] → Kept (OwnP b sv rv) w W → Calls Try.prog 26 #[.pointer (some ⟨b, 2, none⟩), .slice A n c] W fun e w' => e = .returned (.tuple #[]) ∧ ∃ sv' rv', PX w0 w' b s p sv' 0 (ls.map strOf) x rv' [] ∧ Kept (OwnP b sv rv) w w') := fun W hX hK => by
    refine (add_any hX (hv.kept hK h.fix) (by simpa using hl)).mono ?_
    rintro e w' ⟨he, sv', h1, h2, h3⟩
    refine ⟨he, sv', _, by simpa using h1, hK.trans' h2 (fun i hi e => ?_)⟩
    rcases e with e | e | e
    · exact .inl e
    · cases e
    · cases e
  have HC : Hid (∀ W, PX w0 W b s p sv a xs x (.slice none 0 0) [] → W.cell? ⟨b, 2, none⟩ = some sv ∧ W.cell? ⟨b, 3, none⟩ = some (.int .i64 (a : Int)) ∧ (∀ j, W.frozen? ⟨b, j, none⟩ = false) ∧ (W.setCell ⟨b, 2, none⟩ (.slice none 0 0)).cell? ⟨b, 3, none⟩ = some (.int .i64 (a : Int)) ∧ (∀ j, (W.setCell ⟨b, 2, none⟩ (.slice none 0 0)).frozen? ⟨b, j, none⟩ = false)) := fun W hX => ⟨hX.pi.six.c2, hX.pi.six.c3, hX.pi.six.f, (hX.pi.six.set2 _).c3, (hX.pi.six.set2 _).f⟩
  clear h hsp hm hv hl hx0 hx1
  go_enter Try.func18, Try.ntmps18
  go_wp2_with (first
    | (go_at_call 25; (with_reducible refine HM.out.mono ?_); rintro e w1 ⟨rfl, hb⟩; have HB := Lib.hid hb; clear hb)
    | (go_at_call 34; (with_reducible refine (HS.out _ HB.out).mono ?_); rintro e w2 ⟨rfl, h1, h2⟩; have H1 := Lib.hid h1; have H2 := Lib.hid h2; obtain ⟨c2, c3, f2, d3, f3⟩ := HC.out _ h1; have HZ1 := Lib.hid (HZ.out _ h1); clear h1 h2)
    | (go_at_call 26; (with_reducible refine (HA.out _ HZ1.out.1 (H2.out.trans' HZ1.out.2 (fun i _ e => ownB e))).mono ?_); rintro e w3 ⟨rfl, hf⟩; have HF := Lib.hid hf; clear hf))
  go_ret
  exact ⟨rfl, HF.out⟩
end
end Go.Proofs.Ytganokcmcdkdgaa.Pi
