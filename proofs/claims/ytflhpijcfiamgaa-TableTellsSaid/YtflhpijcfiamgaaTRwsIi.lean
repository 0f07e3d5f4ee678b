/-
  The contract of Rows: all rows, in order, as new memory. Conditions: at most a thousand rows.
-/
import Derived.Test.YtflhpijcfiamgaaTEachIi
import Derived.Laws.MakeOwn
namespace Go.Proofs.Ytflhpijcfiamgaa.Tb.Ii
open Go.RowKit Go.Shelf
attribute [local go_sem] Oper.semAt_some

theorem rowInf : (Try.prog.info? 55).map (fun i => (i.zero, i.size, i.bytes)) = some (some (.agg #[.int .i64 0, .int .i64 0]), 2, 16) := by kernel_rfl
theorem made_rows (n : Nat) (hn : n ≤ 1000) : ∃ M : Array Value, M.size = n * 2 ∧ ∀ W : World, (Instr.makeSlice 24 (.int .i64 0) (.int .i64 (n : Int))).run Try.prog W = .ok (.slice (some ⟨W.heap.size, 0, none⟩) 0 n) (W.alloc (.cells M 55)) := by
  obtain ⟨i0, hi0, hz0, hz1, hz2⟩ := info_parts rowInf
  refine ⟨madeCells #[.int .i64 0, .int .i64 0] (n * 2), size_madeCells _ _, fun W => ?_⟩
  have h := run_make (P := Try.prog) W 24 55 i0 _ Try.underlying24 hi0 hz0 .i64 .i64 0 n (Int.le_refl _) (by omega) (by rw [hz2]; omega) (by omega)
  rw [hz1] at h
  exact h

set_option maxRecDepth 100000 in
set_option maxHeartbeats 2000000 in
theorem rows_any (w : World) (p : Option Addr) (rs : List R) (hr : TabR w p rs) (hn : rs.length ≤ 1000) :
    Calls Try.prog 21 #[.pointer p] w fun e w' => ∃ v, e = .returned v ∧ w'.ownsRow w.heap.size 55 2 v rs.length (cells rs) ∧ v ≠ .slice none 0 0 ∧ Below w.heap.size w w' := by
  obtain ⟨i0, hi, hz0, hz1, hz2⟩ := info_parts rowInf
  obtain ⟨M, hM, hmk⟩ := made_rows rs.length hn
  have HM := Lib.hid hM
  have HL := Lib.hid (len_any w p rs hr hn)
  have HR := Lib.hid hr
  clear hM hr
  refine (callsIn_wide (n := 4)).1 ?_
  refine callsIn_of_wp_marks Try.func21 rfl trivial ?_ rfl
  simp only [Try.ntmps21, List.size_toArray, List.length_cons, List.length_nil, Nat.reduceAdd, Nat.reduceSub, Array.replicate_succ, Array.replicate_zero, List.push_toArray, List.append_toArray, List.nil_append, List.cons_append]
  gi_wp2_with (first
    | (refine ⟨trivial, ?_⟩; gi_at_call 18; refine (callsIn_wide.2 HL.out).mono ?_; rintro e w' ⟨rfl, rfl⟩)
    | (refine ⟨trivial, ?_⟩; gi_at_call 24; refine (callsIn_wide.2 (each_any p _)).mono ?_; rintro e w' ⟨rfl, rfl⟩))
  have hz : ((w.alloc (.cells M 55)).alloc (.cells #[.slice (some ⟨w.heap.size, 0, none⟩) 0 rs.length] 24)).heap.size = w.heap.size + 1 + 1 := by simp
  obtain ⟨W0, hW0⟩ : ∃ W0, W0 = ((w.alloc (.cells M 55)).alloc (.cells #[.slice (some ⟨w.heap.size, 0, none⟩) 0 rs.length] 24)).alloc (.cells #[.pointer p] 23) := ⟨_, rfl⟩
  have b1 : Boxed W0 (w.heap.size + 1) 24 (.slice (some ⟨w.heap.size, 0, none⟩) 0 rs.length) := by
    rw [hW0]
    have := Boxed.new (w.alloc (.cells M 55)) 24 (.slice (some ⟨w.heap.size, 0, none⟩) 0 rs.length)
    rw [World.size_alloc] at this
    exact this.alloc _
  have b3 : W0.heap[w.heap.size + 1 + 1]? = some (.cells #[.pointer p] 23 (0, 0)) := by
    rw [hW0, ← hz]
    exact block_new _ _
  have o1 : W0.ownsRow w.heap.size 55 2 (.slice (some ⟨w.heap.size, 0, none⟩) 0 rs.length) 0 [] := by
    rw [hW0]
    exact ((World.ownsRow_made w M rs.length (Nat.le_refl _) (by unfold maxLen; omega) HM.out).alloc _).alloc _
  have hB0 : Below w.heap.size w W0 := by
    rw [hW0]
    exact (((Below.refl _ w).alloc (Nat.le_refl _) _).alloc (by simp) _).alloc (by simp; omega) _
  have hsz : w.heap.size + 1 + 1 < W0.heap.size := by rw [hW0]; simp
  rw [← hW0]
  clear hW0 hz
  refine wpIn_rangeFunc_ownG rfl (by omega) (gf := 47) (lb := #[.pointer (some ⟨w.heap.size + 1 + 1, 0, none⟩)]) rfl trivial (enters_of Try.func47 (by kernel_rfl) rfl)
    (each_stops _ (by omega) (w.heap.size + 1 + 1) w p rs HR.out hn W0 hB0 b3) belowK_t (belowK_b (by omega)) (Below.refl _ _) (fun _ => rfl)
    (fun pre W => (∃ v, Boxed W (w.heap.size + 1) 24 v ∧ W.ownsRow w.heap.size 55 2 v pre.length (cells pre) ∧ v ≠ .slice none 0 0) ∧ Below w.heap.size w W)
    (fun _ _ _ => False)
    (OwnFrom.and (Own.from (holdsRow_own w.heap.size (w.heap.size + 1) 24 55 2 (fun pre : List R => pre.length) (fun pre => cells pre) (fun _ v => v ≠ .slice none 0 0)) _) (ownFrom_below (Nat.le_refl _) (by omega)))
    (fun _ _ _ _ _ hs _ _ => hs)
    ⟨⟨_, b1, o1, by simp⟩, hB0⟩
    (fun x => { tmps := #[.pointer p, undef, .slice none 0 0, .pointer (some ⟨w.heap.size + 1, 0, none⟩), Value.int .i64 x.1, Value.int .i64 x.2, .pointer p, .int .i64 rs.length, .slice (some ⟨w.heap.size, 0, none⟩) 0 rs.length, .pointer p,
      .func (.func 47) #[] #[.pointer (some ⟨w.heap.size + 1 + 1, 0, none⟩)], Value.int .i64 x.1, Value.int .i64 x.2, undef, undef, undef, undef, undef, undef, undef], defers := [] }) ?assign ?body ?done ?stop
  case assign =>
    intro l x W K hK
    gi_wp2
    exact hK
  case body =>
    rintro l pre x W ⟨⟨v, hv, hrow, _⟩, hB⟩ hlt
    have hc := hv.cell
    have HB := Lib.hid hB
    have HV := Lib.hid hv
    have HROW := Lib.hid hrow
    have hz1' := hB.size
    clear hB hv hrow
    gi_wp2_with (gi_at_builtin; refine wpListIn_append_own _ rfl _ _ 24 rfl w.heap.size 55 i0 _ 2 16 Try.underlying24 hi hz0 hz1 hz2 rfl (by decide) _ _ _ rfl (HROW.out.alloc _) ⟨W.heap.size, 0, none⟩ 1 1 [Value.int .i64 x.1, Value.int .i64 x.2] rfl rfl (World.news_of_block (cs := #[Value.int .i64 x.1, Value.int .i64 x.2]) (t := 55) (fr := (0, 0)) (heap_alloc_new W _)) (by simp [Value.oneCell']) (by unfold maxLen; omega) (by omega) (by simp; omega) ?_; intro v' w1 hown' hgrow _; obtain ⟨g', cap', rfl⟩ := ownsRow_succ hown'; obtain ⟨hv1, hv2, hr2, hk2, hb2⟩ := HV.out.appended (by decide) HROW.out hz1' (Nat.le_succ _) hown' hgrow; have hc1 := hv1.cell; have hf1 := hv1.frozen)
    refine ⟨hk2.from _, hb2, ⟨_, hv2, ?_, by simp⟩, HB.out.trans hb2⟩
    rw [cells_append, List.length_append]
    exact hr2
  case done =>
    rintro D ys W hD rfl ⟨⟨v, hv, hrow, hnn⟩, hB⟩ hK
    have hc := hv.cell
    have HNN := Lib.hid hnn
    clear hnn
    gi_wp2
    refine ⟨by simp, .inl ⟨_, _, rfl, run_takeDeferred hK, ?_⟩⟩
    exact ⟨_, results_tmp rfl _ _ _, v, rfl, ownsRow_putObj hrow _ hK rfl, HNN.out, hB.trans (belowK_b (w := w) (Nat.le_refl _) W D _ _ (by omega) hK rfl rfl)⟩
  case stop =>
    rintro D c pre W _ _ h _
    exact h.elim
end Go.Proofs.Ytflhpijcfiamgaa.Tb.Ii
