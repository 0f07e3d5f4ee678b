/-
  A nil pipe says and hears nothing; the law PipeNil. Conditions: none.
-/
import Derived.Test.YtganokcmcdkdgaaUKno
namespace Go.Proofs.Ytganokcmcdkdgaa.Pi
open Go.RowKit Wi Tb Wi.S

/-- What a nil pipe is taken for. -/
abbrev nilO : Obj := .cells #[.int .i64 0, .int .i64 0, .slice none 0 0, .int .i64 0, .slice none 0 0, .int .i64 0] 79
theorem none_px (w : World) : Calls Try.prog 30 #[.pointer none] w fun e w' => ∃ b, e = .returned (.pointer (some ⟨b, 0, none⟩)) ∧ PiR w' b 0 0 (.slice none 0 0) 0 [] 0 (.slice none 0 0) [] ∧ Below w.heap.size w w' :=
  (none_nil w).mono fun e w' ⟨h1, h2⟩ => ⟨_, h1, by rw [h2]; exact PiR.new w 0 0, by rw [h2]; exact (Below.refl _ _).alloc (Nat.le_refl _) _⟩
set_option maxRecDepth 100000 in
theorem said_nil (w : World) : Calls Try.prog 21 #[.pointer none] w fun e w' => e = .returned (.int .i64 0) ∧ Below w.heap.size w w' := by
  have HN := Lib.hid (none_px w)
  have HL := Lib.hid (fun (W : World) b (h : PiR W b 0 0 (.slice none 0 0) 0 [] 0 (.slice none 0 0) []) => len_any h.o)
  go_enter Try.func21, Try.ntmps21
  go_wp2_with (first
    | (go_at_call 36; refine (HL.out _ _ HP.out).mono ?_; rintro e w2 ⟨rfl, rfl⟩)
    | (go_at_call 30; (with_reducible refine HN.out.mono ?_); rintro e w1 ⟨b, rfl, hp, hb⟩; have HP := Lib.hid hp; have HB := Lib.hid hb; clear hp hb))
  go_ret
  exact ⟨rfl, HB.out⟩
set_option maxRecDepth 100000 in
theorem waits_nil (w : World) : Calls Try.prog 22 #[.pointer none] w fun e w' => e = .returned (.int .i64 0) ∧ Below w.heap.size w w' := by
  have HN := Lib.hid (none_px w)
  have HL := Lib.hid (fun (W : World) b (h : PiR W b 0 0 (.slice none 0 0) 0 [] 0 (.slice none 0 0) []) => waiting_any h.o)
  go_enter Try.func22, Try.ntmps22
  go_wp2_with (first
    | (go_at_call 37; refine (HL.out _ _ HP.out).mono ?_; rintro e w2 ⟨rfl, rfl⟩)
    | (go_at_call 30; (with_reducible refine HN.out.mono ?_); rintro e w1 ⟨b, rfl, hp, hb⟩; have HP := Lib.hid hp; have HB := Lib.hid hb; clear hp hb))
  go_ret
  exact ⟨rfl, HB.out⟩
set_option maxRecDepth 100000 in
theorem taken_nil (w : World) : Calls Try.prog 23 #[.pointer none] w fun e w' => e = .returned (.int .i64 0) ∧ Below w.heap.size w w' := by
  have HN := Lib.hid (none_px w)
  have HL := Lib.hid (fun (W : World) b (h : PiR W b 0 0 (.slice none 0 0) 0 [] 0 (.slice none 0 0) []) => next_any h.i)
  go_enter Try.func23, Try.ntmps23
  go_wp2_with (first
    | (go_at_call 38; refine (HL.out _ _ HP.out).mono ?_; rintro e w2 ⟨rfl, rfl⟩)
    | (go_at_call 30; (with_reducible refine HN.out.mono ?_); rintro e w1 ⟨b, rfl, hp, hb⟩; have HP := Lib.hid hp; have HB := Lib.hid hb; clear hp hb))
  go_ret
  exact ⟨rfl, HB.out⟩
set_option maxRecDepth 100000 in
theorem say_nil (w : World) (A : Option Addr) (n c : Nat) : Calls Try.prog 8 #[.pointer none, .slice A n c] w fun e w' => e = .returned (.int .i64 0) ∧ Below w.heap.size w w' := by
  have HM := Lib.hid (made_nil w)
  go_enter Try.func8, Try.ntmps8
  go_wp2_with (first
    | (go_at_call 21; (with_reducible refine (said_nil _).mono ?_); rintro e w2 ⟨rfl, hb⟩; have HB2 := Lib.hid (HB.out.trans (hb.mono HB.out.size)); clear hb)
    | (go_at_call 25; (with_reducible refine HM.out.mono ?_); rintro e w1 ⟨rfl, hb⟩; have HB := Lib.hid hb; clear hb))
  go_ret
  exact ⟨rfl, HB2.out⟩
set_option maxRecDepth 100000 in
theorem restore_nil (w : World) (x : Int) : Calls Try.prog 18 #[.pointer none, .slice none 0 0, .int .i64 x] w fun e w' => e = .returned (.int .i64 10) ∧ Below w.heap.size w w' := by
  have HM := Lib.hid (made_nil w)
  go_enter Try.func18, Try.ntmps18
  go_wp2_with (go_at_call 25; (with_reducible refine HM.out.mono ?_); rintro e w1 ⟨rfl, hb⟩; have HB := Lib.hid hb; clear hb)
  go_ret
  exact ⟨rfl, HB.out⟩
set_option maxRecDepth 100000 in
theorem ready_nil (w : World) : Calls Try.prog 19 #[.pointer none] w fun e w' => e = .returned (.tuple #[.slice none 0 0, .bool false]) ∧ Below w.heap.size w w' := by
  have HN := Lib.hid (none_px w)
  have HL : Hid (∀ (W : World) b (_h : PiR W b 0 0 (.slice none 0 0) 0 [] 0 (.slice none 0 0) []), Calls Try.prog 35 #[.pointer (some ⟨b, 4, none⟩)] W fun e w' => e = .returned (.tuple #[.string ByteArray.empty, .bool false]) ∧ Below W.heap.size W w') := fun W b h => Wi.S.ready_any h.i
  go_enter Try.func19, Try.ntmps19
  go_wp2_with (first
    | (go_at_call 35; (with_reducible refine (HL.out _ _ HP.out).mono ?_); rintro e w2 ⟨rfl, hb⟩; have HB2 := Lib.hid (HB.out.trans (hb.mono HB.out.size)); clear hb)
    | (go_at_call 30; (with_reducible refine HN.out.mono ?_); rintro e w1 ⟨b, rfl, hp, hb⟩; have HP := Lib.hid hp; have HB := Lib.hid hb; clear hp hb))
  go_ret2
  exact ⟨rfl, HB2.out⟩
set_option maxRecDepth 100000 in
theorem take_nil (w : World) : Calls Try.prog 14 #[.pointer none] w fun e w' => e = .returned (.tuple #[zP, .bool false]) ∧ Below w.heap.size w w' := by
  have hb0 : Below w.heap.size w (w.alloc (.cells #[.int .i64 0, .int .i64 0, .int .i64 0, .int .i64 0, .slice none 0 0] 42)) := (Below.refl _ w).alloc (Nat.le_refl _) _
  have HE := Lib.hid (Tb.block_new w (.cells #[.int .i64 0, .int .i64 0, .int .i64 0, .int .i64 0, .slice none 0 0] 42))
  have HN := Lib.hid (none_px (w.alloc (.cells #[.int .i64 0, .int .i64 0, .int .i64 0, .int .i64 0, .slice none 0 0] 42)))
  have HB0 := Lib.hid hb0
  have HL : Hid (∀ (W : World) b (_h : PiR W b 0 0 (.slice none 0 0) 0 [] 0 (.slice none 0 0) []), Calls Try.prog 31 #[.pointer (some ⟨b, 4, none⟩)] W fun e w' => e = .returned (.tuple #[.string ByteArray.empty, .bool false]) ∧ Below W.heap.size W w') := fun W b h => pop_no h.i rfl
  clear hb0
  go_enter Try.func14, Try.ntmps14
  go_wp2_with (first
    | (go_at_call 31; (with_reducible refine (HL.out _ _ HP.out).mono ?_); rintro e w2 ⟨rfl, hb⟩; have h2 := Tb.block_kept HE.out (HB.out.trans (hb.mono HB.out.size)); obtain ⟨r0, r1, r2, r3, r4⟩ := blk5 h2; have fz := fro5 h2; have HB2 := Lib.hid (HB0.out.trans ((HB.out.trans (hb.mono HB.out.size)).mono HB0.out.size)); clear hb h2)
    | (go_at_call 30; (with_reducible refine HN.out.mono ?_); rintro e w1 ⟨b, rfl, hp, hb⟩; have HP := Lib.hid hp; have HB := Lib.hid hb; clear hp hb))
  refine bodyPost_ret (v := .tuple #[zP, .bool false]) (by simp [results, Try.results14, go_sem, r0, r1, r2, r3, r4]) rfl ⟨rfl, ?_⟩
  exact ((((HB2.out.setCell (Nat.le_refl _) _).setCell (Nat.le_refl _) _).setCell (Nat.le_refl _) _).setCell (Nat.le_refl _) _).setCell (Nat.le_refl _) _
set_option maxRecDepth 100000 in
theorem hear_nil (w : World) (k f t n : Int) (A : Option Addr) (q c : Nat) : Calls Try.prog 10 #[.pointer none, .agg #[.int .i64 k, .int .i64 f, .int .i64 t, .int .i64 n, .slice A q c]] w fun e w' => e = .returned (.tuple #[zP, .bool false, .int .i64 10]) ∧ Below w.heap.size w w' := by
  have HN := Lib.hid (HW.new w (.int .i64 k) (.int .i64 f) (.int .i64 t) (.int .i64 n) (.slice A q c))
  have HM := Lib.hid (fun W => made_nil W)
  go_enter Try.func10, Try.ntmps10
  go_wp2_with (go_at_call 25; (with_reducible refine (HM.out _).mono ?_); rintro e w1 ⟨rfl, hb⟩; have HW1 := Lib.hid (HN.out.below hb); obtain ⟨r0, r1, r2, r3, r4⟩ := blk5 HW1.out.z; have fz := fro5 HW1.out.z; clear hb)
  refine bodyPost_ret (v := .tuple #[zP, .bool false, .int .i64 10]) (by simp [results, Try.results10, go_sem, r0, r1, r2, r3, r4]) rfl ⟨rfl, ?_⟩
  exact ((((HW1.out.b.setCell (Nat.le_succ _) _).setCell (Nat.le_succ _) _).setCell (Nat.le_succ _) _).setCell (Nat.le_succ _) _).setCell (Nat.le_succ _) _
set_option maxRecDepth 100000 in
theorem tick_nil (w : World) : Calls Try.prog 16 #[.pointer none] w fun e w' => e = .returned (.slice none 0 0) ∧ Below w.heap.size w w' := by
  have HN := Lib.hid (none_px w)
  have HL : Hid (∀ (W : World) b (_h : PiR W b 0 0 (.slice none 0 0) 0 [] 0 (.slice none 0 0) []), Calls Try.prog 32 #[.pointer (some ⟨b, 2, none⟩)] W fun e w' => ∃ A c, e = .returned (.tuple #[.int .i64 0, .slice A 0 c]) ∧ Below W.heap.size W w') := fun W b h => (window_any h.o).mono fun e w' ⟨A, c, h1, _, h3⟩ => ⟨A, c, h1, h3⟩
  go_enter Try.func16, Try.ntmps16
  go_wp2_with (first
    | (go_at_call 32; (with_reducible refine (HL.out _ _ HP.out).mono ?_); rintro e w2 ⟨A, c, rfl, hb⟩; have HB2 := Lib.hid (HB.out.trans (hb.mono HB.out.size)); clear hb)
    | (go_at_call 30; (with_reducible refine HN.out.mono ?_); rintro e w1 ⟨b, rfl, hp, hb⟩; have HP := Lib.hid hp; have HB := Lib.hid hb; clear hp hb))
  go_loopg [5, 21] 0 (fun (gh : Nat) s5 s21 wx => gh = 0 ∧ s21 = .int .i64 0 ∧ s5 = .slice none 0 0 ∧ Hid (Below w.heap.size w wx))
  case atStart => exact ⟨rfl, rfl, rfl, HB2⟩
  case round =>
    obtain ⟨rfl, rfl, rfl, HX⟩ := hrel
    go_wp2
    go_ret
    exact ⟨rfl, HX.out⟩
end Go.Proofs.Ytganokcmcdkdgaa.Pi
