/-
  The contract of Kept: the numbers of what is kept, rising, as new memory. Conditions: at most a thousand rows.
-/
import Derived.Test.YtaidihilhblhgaaWInI
import Derived.Test.YtaidihilhblhgaaTEachIi
namespace Go.Proofs.Ytaidihilhblhgaa.Wi.I
open Go.RowKit Go.Shelf Tb
attribute [local go_sem] Oper.semAt_some

/-- The keys. -/
def keys (l : List Rw) : List Int := l.map (·.1)
theorem keys_len (l : List Rw) : (keys l).length = l.length := by simp [keys]

set_option maxRecDepth 100000 in
set_option maxHeartbeats 2000000 in
theorem kept_core (w : World) (b : Nat) (rs : List Rw) (hn : rs.length ≤ 1000) (ht : Ii.TabR w (some ⟨b, 0, none⟩) rs) :
    Calls Try.prog 26 #[.pointer (some ⟨b, 0, none⟩)] w fun e w' => ∃ A c, e = .returned (.slice A rs.length c) ∧ rowOf w' w.heap.size (.slice A rs.length c) (keys rs) ∧ Below w.heap.size w w' := by
  obtain ⟨i0, hi, hz0, hz1, hz2⟩ := info_parts elInf
  have HN := Lib.hid (fun W => none_in W b)
  have HT := Lib.hid ht
  clear ht
  refine (callsIn_wide (n := 4)).1 ?_
  refine callsIn_of_wp_marks Try.func26 rfl trivial ?_ rfl
  simp only [Try.ntmps26, List.size_toArray, List.length_cons, List.length_nil, Nat.reduceAdd, Nat.reduceSub, Array.replicate_succ, Array.replicate_zero, List.push_toArray, List.append_toArray, List.nil_append, List.cons_append]
  have hb0 : Below w.heap.size w (w.alloc (.cells #[.slice none 0 0] 24)) := (Below.refl _ w).alloc (Nat.le_refl _) _
  have HB0 := Lib.hid hb0
  clear hb0
  gi_wp2_with (first
    | (refine ⟨trivial, ?_⟩; gi_at_call 41; refine (callsIn_wide.2 (HN.out _)).mono ?_; rintro e w1 ⟨rfl, rfl⟩)
    | (refine ⟨trivial, ?_⟩; gi_at_call 42; refine (callsIn_wide.2 (Ii.each_any _ _)).mono ?_; rintro e w' ⟨rfl, rfl⟩))
  obtain ⟨W0, hW0⟩ : ∃ W0, W0 = (w.alloc (.cells #[.slice none 0 0] 24)).alloc (.cells #[.pointer (some ⟨b, 0, none⟩)] 96) := ⟨_, rfl⟩
  have b1 : Boxed W0 w.heap.size 24 (.slice none 0 0) := by
    rw [hW0]
    exact (Boxed.new w _ _).alloc _
  have hz : (w.alloc (.cells #[.slice none 0 0] 24)).heap.size = w.heap.size + 1 := by simp
  have b3 : W0.heap[w.heap.size + 1]? = some (.cells #[.pointer (some ⟨b, 0, none⟩)] 96 (0, 0)) := by
    rw [hW0, ← hz]
    exact block_new _ _
  have o1 : W0.ownsRow w.heap.size 3 1 (.slice none 0 0) 0 [] := World.ownsRow_nil _ _ _ _
  have hB0 : Below w.heap.size w W0 := by
    rw [hW0]
    exact HB0.out.alloc (by simp) _
  have hsz : w.heap.size + 1 < W0.heap.size := by rw [hW0]; simp
  rw [← hW0]
  clear hW0 hz
  refine wpIn_rangeFunc_ownG rfl (by omega) (gf := 55) (lb := #[.pointer (some ⟨w.heap.size + 1, 0, none⟩)]) rfl trivial (enters_of Try.func55 (by kernel_rfl) rfl)
    (Ii.each_stops _ (by omega) (w.heap.size + 1) w _ rs HT.out hn W0 hB0 b3) belowK_t (belowK_b (by omega)) (Below.refl _ _) (fun _ => rfl)
    (fun pre W => (∃ v, Boxed W w.heap.size 24 v ∧ W.ownsRow w.heap.size 3 1 v pre.length (cl (keys pre)) ∧ True) ∧ Below w.heap.size w W)
    (fun _ _ _ => False)
    (OwnFrom.and (Own.from (holdsRow_own w.heap.size w.heap.size 24 3 1 (fun pre : List Rw => pre.length) (fun pre => cl (keys pre)) (fun _ _ => True)) _) (ownFrom_below (Nat.le_refl _) (by omega)))
    (fun _ _ _ _ _ hs _ _ => hs)
    ⟨⟨_, b1, o1, trivial⟩, hB0⟩
    (fun x => { tmps := #[.pointer (some ⟨b, 0, none⟩), undef, .slice none 0 0, .pointer (some ⟨w.heap.size, 0, none⟩), .int .i64 x.1, .pointer (some ⟨b, 0, none⟩), .pointer (some ⟨b, 0, none⟩), .pointer (some ⟨b, 0, none⟩), .pointer (some ⟨b, 0, none⟩), .pointer (some ⟨b, 0, none⟩),
      .func (.func 55) #[] #[.pointer (some ⟨w.heap.size + 1, 0, none⟩)], .int .i64 x.1, .int .i64 x.2, undef, undef, undef, undef, undef], defers := [] }) ?assign ?body ?done ?stop
  case assign =>
    intro l x W K hK
    gi_wp2
    exact hK
  case body =>
    rintro l pre x W ⟨⟨v, hv, hrow, _⟩, hB⟩ hlt
    have hc := hv.cell
    have HB := Lib.hid hB
    have HV := Lib.hid hv
    have HROW := Lib.hid hrow
    have hz1' := hB.size
    clear hB hv hrow
    gi_wp2_with (gi_at_builtin; refine wpListIn_append_own _ rfl _ _ 24 rfl w.heap.size 3 i0 _ 1 8 Try.underlying24 hi hz0 hz1 hz2 rfl (by decide) _ _ _ rfl (HROW.out.alloc _) ⟨W.heap.size, 0, none⟩ 1 1 [.int .i64 x.1] rfl rfl (World.news_of_block (cs := #[.int .i64 x.1]) (t := 3) (fr := (0, 0)) (heap_alloc_new W _)) (by simp [Value.oneCell']) (by unfold maxLen; omega) (by omega) (by simp; omega) ?_; intro v' w1 hown' hgrow _; obtain ⟨g', cap', rfl⟩ := ownsRow_succ hown'; obtain ⟨hv1, hv2, hr2, hk2, hb2⟩ := HV.out.appended (by decide) HROW.out hz1' (Nat.le_refl _) hown' hgrow; have hc1 := hv1.cell; have hf1 := hv1.frozen)
    refine ⟨hk2.from _, hb2, ⟨_, hv2, ?_, trivial⟩, HB.out.trans hb2⟩
    unfold keys
    rw [List.map_append, cl_app, List.length_append]
    exact hr2
  case done =>
    rintro D ys W hD rfl ⟨⟨v, hv, hrow, _⟩, hB⟩ hK
    have hc := hv.cell
    obtain ⟨A, c, rfl, _⟩ := own_form hrow
    gi_wp2
    refine ⟨by simp, .inl ⟨_, _, rfl, run_takeDeferred hK, ?_⟩⟩
    refine ⟨_, results_tmp rfl _ _ _, A, c, rfl, ?_, hB.trans (belowK_b (w := w) (Nat.le_refl _) W D _ _ (by omega) hK rfl rfl)⟩
    have := ownsRow_putObj hrow (.deferred none) hK rfl
    unfold rowOf
    rw [keys_len]
    exact this
  case stop =>
    rintro D c pre W _ _ h _
    exact h.elim
set_option maxRecDepth 100000 in
set_option maxHeartbeats 2000000 in
theorem kept_new (w : World)
    (hN : ∀ W, Below w.heap.size w W → Calls Try.prog 41 #[.pointer none] W fun e w' => ∃ b, e = .returned (.pointer (some ⟨b, 0, none⟩)) ∧ Below W.heap.size W w' ∧ Ii.TabR w' (some ⟨b, 0, none⟩) []) :
    Calls Try.prog 26 #[.pointer none] w fun e w' => ∃ A c, e = .returned (.slice A 0 c) ∧ Below w.heap.size w w' := by
  have HN := Lib.hid hN
  clear hN
  refine (callsIn_wide (n := 4)).1 ?_
  refine callsIn_of_wp_marks Try.func26 rfl trivial ?_ rfl
  simp only [Try.ntmps26, List.size_toArray, List.length_cons, List.length_nil, Nat.reduceAdd, Nat.reduceSub, Array.replicate_succ, Array.replicate_zero, List.push_toArray, List.append_toArray, List.nil_append, List.cons_append]
  have hb0 : Below w.heap.size w (w.alloc (.cells #[.slice none 0 0] 24)) := (Below.refl _ w).alloc (Nat.le_refl _) _
  have HB0 := Lib.hid hb0
  clear hb0
  gi_wp2_with (first
    | (refine ⟨trivial, ?_⟩; gi_at_call 41; refine (callsIn_wide.2 (HN.out _ HB0.out)).mono ?_; rintro e w1 ⟨b, rfl, hb1, ht⟩; have HB1 := Lib.hid hb1; have HT := Lib.hid ht; clear hb1 ht)
    | (refine ⟨trivial, ?_⟩; gi_at_call 42; refine (callsIn_wide.2 (Ii.each_any _ _)).mono ?_; rintro e w' ⟨rfl, rfl⟩))
  obtain ⟨W0, hW0⟩ : ∃ W0, W0 = w1.alloc (.cells #[.pointer (some ⟨b, 0, none⟩)] 96) := ⟨_, rfl⟩
  have b1 : Boxed W0 w.heap.size 24 (.slice none 0 0) := by
    rw [hW0]
    exact (show Boxed w1 w.heap.size 24 (.slice none 0 0) from block_kept (Boxed.new w _ _) HB1.out).alloc _
  have b3 : W0.heap[w1.heap.size]? = some (.cells #[.pointer (some ⟨b, 0, none⟩)] 96 (0, 0)) := by
    rw [hW0]
    exact block_new _ _
  have zw : w.heap.size + 1 ≤ w1.heap.size := by have := HB1.out.size; simpa using this
  have o1 : W0.ownsRow w.heap.size 3 1 (.slice none 0 0) 0 [] := World.ownsRow_nil _ _ _ _
  have hB0 : Below w.heap.size w W0 := by
    rw [hW0]
    exact (HB0.out.trans (HB1.out.mono (by simp))).alloc (by omega) _
  have hB1 : Below w1.heap.size w1 W0 := by
    rw [hW0]
    exact (Below.refl _ w1).alloc (Nat.le_refl _) _
  have hsz : w1.heap.size < W0.heap.size := by rw [hW0]; simp
  have hbw : Below w.heap.size w w1 := HB0.out.trans (HB1.out.mono (by simp))
  rw [← hW0]
  clear hW0
  refine wpIn_rangeFunc_ownG rfl (by omega) (gf := 55) (lb := #[.pointer (some ⟨w1.heap.size, 0, none⟩)]) rfl trivial (enters_of Try.func55 (by kernel_rfl) rfl)
    (Ii.each_stops _ (by omega) w1.heap.size w1 _ [] HT.out (by simp) W0 hB1 b3) belowK_t (belowK_b (by omega)) (Below.refl _ _) (fun _ => rfl)
    (fun _ W => (∃ v, Boxed W w.heap.size 24 v ∧ W.ownsRow w.heap.size 3 1 v 0 [] ∧ True) ∧ Below w.heap.size w W)
    (fun _ _ _ => False)
    (OwnFrom.and (Own.from (holdsRow_own w.heap.size w.heap.size 24 3 1 (fun _ : List Rw => 0) (fun _ => []) (fun _ _ => True)) _) (ownFrom_below (Nat.le_refl _) (by omega)))
    (fun _ _ _ _ _ hs _ _ => hs)
    ⟨⟨_, b1, o1, trivial⟩, hB0⟩
    (fun x => { tmps := #[.pointer none, undef, .slice none 0 0, .pointer (some ⟨w.heap.size, 0, none⟩), .int .i64 x.1, .pointer none, .pointer (some ⟨b, 0, none⟩), .pointer (some ⟨b, 0, none⟩), .pointer (some ⟨b, 0, none⟩), .pointer (some ⟨b, 0, none⟩),
      .func (.func 55) #[] #[.pointer (some ⟨w1.heap.size, 0, none⟩)], .int .i64 x.1, .int .i64 x.2, undef, undef, undef, undef, undef], defers := [] }) ?assign ?body ?done ?stop
  case assign =>
    intro l x W K hK
    gi_wp2
    exact hK
  case body =>
    rintro l pre x W _ hlt
    simp at hlt
  case done =>
    rintro D ys W hD rfl ⟨⟨v, hv, hrow, _⟩, hB⟩ hK
    have hc := hv.cell
    obtain ⟨A, c, rfl, _⟩ := own_form hrow
    gi_wp2
    refine ⟨by simp, .inl ⟨_, _, rfl, run_takeDeferred hK, ?_⟩⟩
    exact ⟨_, results_tmp rfl _ _ _, A, c, rfl, hB.trans (belowK_b (w := w) (Nat.le_refl _) W D _ _ (by omega) hK rfl rfl)⟩
  case stop =>
    rintro D c pre W _ _ h _
    exact h.elim
/-- Of one that is there. -/
theorem kept_any {w : World} {b : Nat} {nx : Int} {sv : Value} {l : List Rw} (h : InR w b nx sv l) : Calls Try.prog 26 #[.pointer (some ⟨b, 0, none⟩)] w fun e w' => ∃ A c, e = .returned (.slice A l.length c) ∧ rowOf w' w.heap.size (.slice A l.length c) (keys l) ∧ Below w.heap.size w w' :=
  kept_core w b l (by have := h.few; omega) h.tab.read
end Go.Proofs.Ytaidihilhblhgaa.Wi.I
