/-
  A pipe in memory; the contracts of its calls. Conditions: at most five thousand things said.
-/
import Derived.Test.YtganokcmcdkdgaaGreatPZ6
namespace Go.Proofs.YtganokcmcdkdgaaGreat.Pi
open Go.RowKit Fr Wi Tb Wi.S

/-- A pipe. -/
structure PiR (w : World) (b : Nat) (s p : Int) (sv : Value) (a : Nat) (xs : List ByteArray) (nx : Int) (rv : Value) (l : List Rw) : Prop where
  o : OutR w b (.int .i64 s, .int .i64 p, rv, .int .i64 nx) sv a xs
  i : InR w b (.int .i64 s, .int .i64 p, sv, .int .i64 (a : Int)) nx rv l
  d : ∀ g, sv.ownBlock = some g → rv.ownBlock ≠ some g
/-- Its blocks. -/
def OwnP (b : Nat) (sv rv : Value) : Nat → Prop := fun x => x = b ∨ sv.ownBlock = some x ∨ rv.ownBlock = some x
section
variable {w w' : World} {b a : Nat} {s p nx : Int} {sv rv : Value} {xs : List ByteArray} {l : List Rw}
theorem PiR.six (h : PiR w b s p sv a xs nx rv l) : Six w b (.int .i64 s) (.int .i64 p) sv (.int .i64 (a : Int)) rv (.int .i64 nx) := h.o.blk
theorem PiR.lt (h : PiR w b s p sv a xs nx rv l) : ∀ i, OwnP b sv rv i → i < w.heap.size := fun i hi => by
  rcases hi with h1 | h1 | h1
  · rw [h1]; exact h.six.lt
  · exact own_lt h.o.row i h1
  · exact own_lt h.i.tab.2.2 i h1
theorem PiR.keep {S : Nat → Prop} (h : PiR w b s p sv a xs nx rv l) (hk : Kept S w w') (hs : ∀ i, OwnP b sv rv i → ¬ S i) : PiR w' b s p sv a xs nx rv l :=
  ⟨h.o.keep hk (fun i hi => hs i (hi.elim .inl (fun e => .inr (.inl e)))), h.i.keep hk (fun i hi => hs i (hi.elim .inl (fun e => .inr (.inr e)))), h.d⟩
theorem PiR.below (h : PiR w b s p sv a xs nx rv l) (hb : Below w.heap.size w w') : PiR w' b s p sv a xs nx rv l := h.keep (Kept.of_below (S := fun _ => False) hb) (fun _ _ h => h)
theorem PiR.ofO {sv' : Value} {a' : Nat} {xs' : List ByteArray} (h : PiR w b s p sv a xs nx rv l) (o : OutR w' b (.int .i64 s, .int .i64 p, rv, .int .i64 nx) sv' a' xs') (k : Kept (Wi.Own b sv) w w') (n : Nw w sv sv') : PiR w' b s p sv' a' xs' nx rv l := by
  have hr : ∀ i, rv.ownBlock = some i → ¬ Wi.Own b sv i := fun i hi e => by
    rcases e with e | e
    · exact h.i.two.not_row (by decide) h.i.tab.2.2 (by rw [hi, e])
    · exact h.d i e hi
  refine ⟨o, ⟨⟨trivial, o.blk, own_keep h.i.tab.2.2 k hr⟩, h.i.asc, h.i.rng, h.i.nn⟩, fun g hg hg2 => ?_⟩
  rcases n g hg with h1 | h1
  · exact h.d g h1 hg2
  · have := own_lt h.i.tab.2.2 g hg2; omega
theorem PiR.ofI {nx' : Int} {rv' : Value} {l' : List Rw} (h : PiR w b s p sv a xs nx rv l) (i : InR w' b (.int .i64 s, .int .i64 p, sv, .int .i64 (a : Int)) nx' rv' l') (k : Kept (Wi.Own b rv) w w') (n : Nw w rv rv') : PiR w' b s p sv a xs nx' rv' l' := by
  have hr : ∀ i, sv.ownBlock = some i → ¬ Wi.Own b rv i := fun i hi e => by
    rcases e with e | e
    · exact h.o.blk.not_row (by decide) h.o.row (by rw [hi, e])
    · exact h.d i hi e
  refine ⟨⟨i.tab.2.1, own_keep h.o.row k hr, h.o.le, h.o.few⟩, i, fun g hg hg2 => ?_⟩
  rcases n g hg2 with h1 | h1
  · exact h.d g hg h1
  · have := own_lt h.o.row g hg; omega
/-- None of its blocks is one that nobody changes. -/
theorem PiR.fix {N0 : Nat} (h : PiR w b s p sv a xs nx rv l) (hn : ∀ i, OwnP b sv rv i → N0 ≤ i) : ∀ g, Fix N0 w g → ¬ OwnP b sv rv g := fun g hf ho => by
  have h0 := hn g ho
  rcases hf with hf | ⟨t, cs, fr, h1, h2⟩
  · omega
  · rcases ho with ho | ho | ho
    · rw [ho, show w.heap[b]? = _ from h.six] at h1
      simp only [Option.some.injEq, Obj.cells.injEq] at h1
      rw [← h1.2.1] at h2
      revert h2; decide
    · rcases h.o.row.2 with ⟨h3, _⟩ | ⟨g2, cap, cur, h3, _, h4, _⟩
      · rw [h3] at ho; cases ho
      · rw [h3] at ho; cases ho
        rw [h4] at h1
        simp only [Option.some.injEq, Obj.cells.injEq] at h1
        rw [← h1.2.1] at h2
        revert h2; decide
    · rcases h.i.tab.2.2.2 with ⟨h3, _⟩ | ⟨g2, cap, cur, h3, _, h4, _⟩
      · rw [h3] at ho; cases ho
      · rw [h3] at ho; cases ho
        rw [h4] at h1
        simp only [Option.some.injEq, Obj.cells.injEq] at h1
        rw [← h1.2.1] at h2
        revert h2; decide
theorem PiR.new (w : World) (s p : Int) : PiR (w.alloc (.cells #[.int .i64 s, .int .i64 p, .slice none 0 0, .int .i64 0, .slice none 0 0, .int .i64 0] 114)) w.heap.size s p (.slice none 0 0) 0 [] 0 (.slice none 0 0) [] :=
  ⟨⟨Six.new _ _ _ _ _ _ _, World.ownsRow_nil _ _ _ _, Nat.le_refl _, Nat.zero_le _⟩, ⟨⟨trivial, Six.new _ _ _ _ _ _ _, World.ownsRow_nil _ _ _ _⟩, List.Pairwise.nil, fun _ h => (by cases h), by omega⟩, fun g h => by cases h⟩

theorem blk5 {w : World} {b : Nat} {x0 x1 x2 x3 x4 : Value} {t : TypeId} (h : w.heap[b]? = some (.cells #[x0, x1, x2, x3, x4] t (0, 0))) :
    w.cell? ⟨b, 0, none⟩ = some x0 ∧ w.cell? ⟨b, 1, none⟩ = some x1 ∧ w.cell? ⟨b, 2, none⟩ = some x2 ∧ w.cell? ⟨b, 3, none⟩ = some x3 ∧ w.cell? ⟨b, 4, none⟩ = some x4 := by
  refine ⟨?_, ?_, ?_, ?_, ?_⟩ <;> simp [World.cell?, h]
theorem fro5 {w : World} {b : Nat} {cs : Array Value} {t : TypeId} (h : w.heap[b]? = some (.cells cs t (0, 0))) (j : Nat) : w.frozen? ⟨b, j, none⟩ = false := by simp [World.frozen?, h]
set_option maxRecDepth 100000 in
theorem packet_any (h : PiR w b s p sv a xs nx rv l) (k n : Int) : Calls Tryz.prog 65 #[.pointer (some ⟨b, 0, none⟩), .int .i64 k, .int .i64 n] w fun e w' => e = .returned (.agg #[.int .i64 k, .int .i64 s, .int .i64 p, .int .i64 n, .slice none 0 0]) ∧ Below w.heap.size w w' := by
  have c0 := h.six.c0
  have c1 := h.six.c1
  have hc : Hid (∀ o : Obj, (w.alloc o).drew.cell? ⟨b, 0, none⟩ = some (.int .i64 s) ∧ (w.alloc o).drew.cell? ⟨b, 1, none⟩ = some (.int .i64 p)) := fun o => ⟨(h.below (((Below.refl _ w).alloc (Nat.le_refl _) o).drew)).six.c0, (h.below (((Below.refl _ w).alloc (Nat.le_refl _) o).drew)).six.c1⟩
  clear h c0 c1
  go_enter Tryz.func65, Tryz.ntmps65
  go_upto_region 1 with fail
  go_region_held3 (fun w' => w'.cell? ⟨b, 0, none⟩ = some (.int .i64 s) ∧ w'.cell? ⟨b, 1, none⟩ = some (.int .i64 p)) (exact hc.out _) (fail)
  all_goals
    go_wp2
    obtain ⟨r0, r1, r2, r3, r4⟩ := blk5 (Tb.block_new w (.cells #[.int .i64 k, .int .i64 s, .int .i64 p, .int .i64 n, .slice none 0 0] 25))
    refine bodyPost_ret (v := .agg #[.int .i64 k, .int .i64 s, .int .i64 p, .int .i64 n, .slice none 0 0]) (by simp [results, Tryz.results65, go_sem, r0, r1, r2, r3, r4]) rfl ⟨rfl, ?_⟩
    exact ((Below.refl _ _).alloc (Nat.le_refl _) _).drew
set_option maxRecDepth 100000 in
theorem made_any (h : PiR w b s p sv a xs nx rv l) : Calls Tryz.prog 60 #[.pointer (some ⟨b, 0, none⟩)] w fun e w' => e = .returned (.bool (decide (s ≠ p))) ∧ Below w.heap.size w w' := by
  have c0 := (h.below (w' := w.drew) (Below.refl _ _).drew).six.c0
  have c1 := (h.below (w' := w.drew) (Below.refl _ _).drew).six.c1
  clear h
  go_enter Tryz.func60, Tryz.ntmps60
  go_upto_region 1 with fail
  go_region_held3 (fun w' => w'.cell? ⟨b, 0, none⟩ = some (.int .i64 s) ∧ w'.cell? ⟨b, 1, none⟩ = some (.int .i64 p)) (exact ⟨c0, c1⟩) (fail)
  all_goals
    go_wp2
    go_ret
    exact ⟨by by_cases h : s = p <;> simp [h], (Below.refl _ _).drew⟩
set_option maxRecDepth 100000 in
theorem made_nil (w : World) : Calls Tryz.prog 60 #[.pointer none] w fun e w' => e = .returned (.bool false) ∧ Below w.heap.size w w' := by
  go_enter Tryz.func60, Tryz.ntmps60
  go_wp2
  go_quiet (fail)
  go_wp2
  go_ret
  exact ⟨rfl, Fr.below_drewN (Below.refl _ _) _⟩
set_option maxRecDepth 100000 in
theorem none_any (w : World) (b : Nat) : Calls Tryz.prog 63 #[.pointer (some ⟨b, 0, none⟩)] w fun e w' => e = .returned (.pointer (some ⟨b, 0, none⟩)) ∧ w = w' := by
  go_enter Tryz.func63, Tryz.ntmps63
  go_wp2
  go_ret
  exact ⟨rfl, rfl⟩
set_option maxRecDepth 100000 in
theorem none_nil (w : World) : Calls Tryz.prog 63 #[.pointer none] w fun e w' => e = .returned (.pointer (some ⟨w.heap.size, 0, none⟩)) ∧ w' = w.alloc (.cells #[.int .i64 0, .int .i64 0, .slice none 0 0, .int .i64 0, .slice none 0 0, .int .i64 0] 114) := by
  go_enter Tryz.func63, Tryz.ntmps63
  go_wp2
  go_ret
  exact ⟨rfl, rfl⟩
set_option maxRecDepth 100000 in
theorem said_any (h : PiR w b s p sv a xs nx rv l) : Calls Tryz.prog 62 #[.pointer (some ⟨b, 0, none⟩)] w fun e w' => e = .returned (.int .i64 (xs.length : Int)) ∧ w = w' := by
  have HN := Lib.hid (none_any w b)
  have HL := Lib.hid (len_any h.o)
  obtain ⟨n, hn⟩ : ∃ n, n = xs.length := ⟨_, rfl⟩
  rw [← hn] at HL ⊢
  clear h hn
  go_enter Tryz.func62, Tryz.ntmps62
  go_wp2_with (first
    | (go_at_call 88; (with_reducible refine HL.out.mono ?_); rintro e w1 ⟨rfl, rfl⟩)
    | (go_at_call 63; (with_reducible refine HN.out.mono ?_); rintro e w1 ⟨rfl, rfl⟩))
  go_ret
  exact ⟨rfl, rfl⟩
set_option maxRecDepth 100000 in
theorem waits_any (h : PiR w b s p sv a xs nx rv l) : Calls Tryz.prog 37 #[.pointer (some ⟨b, 0, none⟩)] w fun e w' => e = .returned (.int .i64 ((xs.length - a : Nat) : Int)) ∧ w = w' := by
  have HN := Lib.hid (none_any w b)
  have HL := Lib.hid (waiting_any h.o)
  obtain ⟨n, hn⟩ : ∃ n, n = xs.length - a := ⟨_, rfl⟩
  rw [← hn] at HL ⊢
  clear h hn
  go_enter Tryz.func37, Tryz.ntmps37
  go_wp2_with (first
    | (go_at_call 70; (with_reducible refine HL.out.mono ?_); rintro e w1 ⟨rfl, rfl⟩)
    | (go_at_call 63; (with_reducible refine HN.out.mono ?_); rintro e w1 ⟨rfl, rfl⟩))
  go_ret
  exact ⟨rfl, rfl⟩
set_option maxRecDepth 100000 in
theorem taken_any (h : PiR w b s p sv a xs nx rv l) : Calls Tryz.prog 38 #[.pointer (some ⟨b, 0, none⟩)] w fun e w' => e = .returned (.int .i64 nx) ∧ w = w' := by
  have HN := Lib.hid (none_any w b)
  have HL := Lib.hid (next_any h.i)
  clear h
  go_enter Tryz.func38, Tryz.ntmps38
  go_wp2_with (first
    | (go_at_call 71; (with_reducible refine HL.out.mono ?_); rintro e w1 ⟨rfl, rfl⟩)
    | (go_at_call 63; (with_reducible refine HN.out.mono ?_); rintro e w1 ⟨rfl, rfl⟩))
  go_ret
  exact ⟨rfl, rfl⟩
end
end Go.Proofs.YtganokcmcdkdgaaGreat.Pi
