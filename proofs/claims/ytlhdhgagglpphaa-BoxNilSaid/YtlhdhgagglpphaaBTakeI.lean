/-
  The contracts of Take, Fill and of a nil box's calls, at int. Conditions: the box is open.
-/
import Derived.Test.YtlhdhgagglpphaaBBoxI
namespace Go.Proofs.Ytlhdhgagglpphaa.Bx.I
open Go.RowKit Go.Conc

set_option maxRecDepth 100000 in
theorem len_nil (w : World) : Calls Try.prog 14 #[.pointer none] w fun e w' => e = .returned (.int .i64 0) ∧ w = w' := by
  go_enter Try.func14, Try.ntmps14
  have hl : (Builtin.len_ #[52] 3 #[.chan none]).run Try.prog w = .ok (.int .i64 0) w := by simp [Builtin.len_, run_underlying Try.underlying52]; rfl
  go_wp2_with (go_at_call 26; refine (chan_nil _).mono ?_; rintro e w1 ⟨rfl, rfl⟩)
  go_ret
  exact ⟨rfl, rfl⟩
set_option maxRecDepth 100000 in
theorem room_nil (w : World) : Calls Try.prog 17 #[.pointer none] w fun e w' => e = .returned (.int .i64 0) ∧ w = w' := by
  have hl : (Builtin.cap_ #[52] 3 #[.chan none]).run Try.prog w = .ok (.int .i64 0) w := by simp [Builtin.cap_, run_underlying Try.underlying52]; rfl
  go_enter Try.func17, Try.ntmps17
  go_wp2_with (go_at_call 26; refine (chan_nil _).mono ?_; rintro e w1 ⟨rfl, rfl⟩)
  go_ret
  exact ⟨rfl, rfl⟩
set_option maxRecDepth 100000 in
theorem left_nil (w : World) : Calls Try.prog 27 #[.pointer none] w fun e w' => e = .returned (.int .i64 0) ∧ w = w' := by
  go_enter Try.func27, Try.ntmps27
  go_wp2
  go_ret
  exact ⟨rfl, rfl⟩
set_option maxRecDepth 100000 in
theorem left_any (n0 : Nat) (w : World) (b c cap : Nat) (l : List V) (h : BoxR n0 w b c cap l) (hl : l.length ≤ cap) (hc : cap ≤ 5000) : Calls Try.prog 27 #[.pointer (some ⟨b, 0, none⟩)] w fun e w' => e = .returned (.int .i64 (((cap - l.length : Nat) : Int))) ∧ w = w' := by
  have HL := Lib.hid (len_any n0 w b c cap l h)
  have HR := Lib.hid (room_any n0 w b c cap l h)
  have e1 : IntKind.wrap .i64 ((cap : Int) - (l.length : Int)) = ((cap - l.length : Nat) : Int) := by
    rw [IntKind.wrap_i64]
    omega
  obtain ⟨s, r, q, h0, h1, h2, h3, h4, h5⟩ := h
  obtain ⟨⟨c1, c2⟩, _⟩ := block_cell2 h3
  clear h0 h1 h2 h3 h4 h5
  go_enter Try.func27, Try.ntmps27
  go_wp2_with (first
    | (go_at_call 17; refine HR.out.mono ?_; rintro e w1 ⟨rfl, rfl⟩)
    | (go_at_call 14; refine HL.out.mono ?_; rintro e w1 ⟨rfl, rfl⟩))
  go_ret
  exact ⟨rfl, rfl⟩
set_option maxRecDepth 100000 in
theorem shut_nil (w : World) : Calls Try.prog 15 #[.pointer none] w fun e w' => e = .returned (.tuple #[]) ∧ w = w' := by
  go_enter Try.func15, Try.ntmps15
  go_wp2
  go_end0
  exact ⟨rfl, rfl⟩
set_option maxRecDepth 100000 in
theorem take_nil (w : World) : Calls Try.prog 13 #[.pointer none] w fun e w' => e = .returned (.tuple #[.int .i64 0, .int .i64 13]) ∧ w = w' := by
  go_enter Try.func13, Try.ntmps13
  go_wp2_with (first
    | (go_at_call 26; refine (chan_nil _).mono ?_; rintro e w1 ⟨rfl, rfl⟩)
    | (go_at_call 25; refine (recv_nil _).mono ?_; rintro e w1 ⟨rfl, rfl⟩))
  go_ret2
  exact ⟨rfl, rfl⟩
set_option maxRecDepth 100000 in
theorem take_none (n0 : Nat) (w : World) (b c cap : Nat) (h : BoxR n0 w b c cap []) : Calls Try.prog 13 #[.pointer (some ⟨b, 0, none⟩)] w fun e w' => e = .returned (.tuple #[.int .i64 0, .int .i64 13]) ∧ w = w' := by
  obtain ⟨s, r, q, h0, h1, h2, h3, h4, h5⟩ := h
  have hq : q = [] := List.map_eq_nil_iff.1 h0
  subst hq
  go_enter Try.func13, Try.ntmps13
  go_wp2_with (first
    | (go_at_call 26; refine (chan_any _ _ _ _ h3).mono ?_; rintro e w1 ⟨rfl, rfl⟩)
    | (go_at_call 25; refine (recv_none _ _ _ _ _ _ h4).mono ?_; rintro e w1 ⟨rfl, rfl⟩))
  go_ret2
  exact ⟨rfl, rfl⟩
/-- Behind a Take. -/
theorem box_take {n0 : Nat} {w w2 : World} {b cap : Nat} {c s r g : Nat} {x : V} {q : List (Nat × V)} (h1 : n0 ≤ b) (h2 : n0 ≤ c) (h3 : w.heap[b]? = some (.cells #[.chan (some c), .bool false] 54 (0, 0)))
    (h4 : w.heap[c]? = some (.chan cap (ptrs ((g, x) :: q)) false s r false)) (h5 : ∀ e ∈ (g, x) :: q, n0 ≤ e.1 ∧ w.heap[e.1]? = some (.cells #[ev e.2] 3 (0, 0))) (hw : w2 = w.setChan c cap ((ptrs ((g, x) :: q)).extract 1 (ptrs ((g, x) :: q)).size) false s (r + 1) false) :
    BoxR n0 w2 b c cap (q.map Prod.snd) ∧ w.grownBy w2 (some c) ∧ w2.cell? ⟨g, 0, none⟩ = some (.int .i64 x) := by
  subst hw
  have lb := (Array.getElem?_eq_some_iff.1 h3).1
  have lc := (Array.getElem?_eq_some_iff.1 h4).1
  have hbc : c ≠ b := fun e => by rw [e, h3] at h4; simp at h4
  have hel : ∀ e ∈ (g, x) :: q, n0 ≤ e.1 ∧ (w.setChan c cap ((ptrs ((g, x) :: q)).extract 1 (ptrs ((g, x) :: q)).size) false s (r + 1) false).heap[e.1]? = some (.cells #[ev e.2] 3 (0, 0)) := by
    intro e he
    have h6 := h5 e he
    have hce : c ≠ e.1 := fun k => by rw [← k, h4] at h6; simp at h6
    rw [setChan_other _ _ _ _ _ _ _ _ _ hce]
    exact h6
  have hp : (ptrs ((g, x) :: q)).extract 1 (ptrs ((g, x) :: q)).size = ptrs q := by
    unfold ptrs
    simp only [List.map_cons, List.size_toArray, List.length_cons, List.length_map, List.extract_toArray, List.extract_eq_take_drop, List.drop_succ_cons, List.drop_zero, Nat.add_sub_cancel]
    rw [List.take_of_length_le (by simp)]
  rw [hp] at hel ⊢
  refine ⟨⟨s, r + 1, q, rfl, h1, h2, ?_, heap_setChan _ _ _ _ _ _ _ _ lc, fun e he => hel e (List.mem_cons_of_mem _ he)⟩, ?_, (block_cell (hel (g, x) (List.mem_cons_self ..)).2).1⟩
  · rw [setChan_other _ _ _ _ _ _ _ _ _ hbc]
    exact h3
  · exact grownBy_setChan (grownBy_refl w _) _ _ _ _ _ _
set_option maxRecDepth 100000 in
theorem take_some (n0 : Nat) (w : World) (b c cap : Nat) (x : V) (l : List V) (h : BoxR n0 w b c cap (x :: l)) : Calls Try.prog 13 #[.pointer (some ⟨b, 0, none⟩)] w fun e w' => e = .returned (.tuple #[.int .i64 x, .int .i64 0]) ∧ BoxR n0 w' b c cap l ∧ w.grownBy w' (some c) := by
  obtain ⟨s, r, q, h0, h1, h2, h3, h4, h5⟩ := h
  obtain _ | ⟨⟨g, y⟩, q⟩ := q
  · simp at h0
  simp only [List.map_cons, List.cons.injEq] at h0
  obtain ⟨rfl, rfl⟩ := h0
  have hr := recv_some w c cap s r (ptrs ((g, y) :: q)) false false h4 (by simp [ptrs]) (.pointer (some ⟨g, 0, none⟩)) (by simp [ptrs])
  have HP := Lib.hid (box_take (w2 := _) h1 h2 h3 h4 h5 rfl)
  have hcell := HP.out.2.2
  have H3 := Lib.hid h3
  clear h1 h2 h3 h4 h5
  obtain ⟨W2, hW2⟩ : ∃ W2, W2 = w.setChan c cap ((ptrs ((g, y) :: q)).extract 1 (ptrs ((g, y) :: q)).size) false s (r + 1) false := ⟨_, rfl⟩
  rw [← hW2] at hr hcell HP
  clear hW2
  go_enter Try.func13, Try.ntmps13
  go_wp2_with (first
    | (go_at_call 26; refine (chan_any _ _ _ _ H3.out).mono ?_; rintro e w1 ⟨rfl, rfl⟩)
    | (go_at_call 25; refine hr.mono ?_; rintro e w1 ⟨rfl, rfl⟩))
  go_ret2
  exact ⟨rfl, HP.out.1, HP.out.2.1⟩
end Go.Proofs.Ytlhdhgagglpphaa.Bx.I
