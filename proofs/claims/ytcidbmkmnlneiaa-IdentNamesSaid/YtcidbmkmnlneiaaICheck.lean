/-
  The contract of ident's check: the check digit of an ISIN's first 11 bytes. Conditions: the text has that form.
-/
import Derived.Test.YtcidbmkmnlneiaaIBack
namespace Go.Proofs.Ytcidbmkmnlneiaa.Id
open Go.RowKit Go.Shelf
attribute [local go_sem] Oper.semAt_some

theorem gD_range (b : Bool) {d : Int} (h0 : 0 ≤ d) (h1 : d ≤ 9) : 0 ≤ gD b d ∧ gD b d ≤ 9 := by
  unfold gD
  cases b <;> simp <;> omega
theorem stB_range (l : List Dg) : 0 ≤ (stB (vals l)).2 ∧ (stB (vals l)).2 ≤ 9 * l.length := by
  have : ∀ (m : List Dg) (b : Bool) (x : Int), 0 ≤ x → x ≤ ((vals m).foldl stp (b, x)).2 ∧ ((vals m).foldl stp (b, x)).2 ≤ x + 9 * m.length := by
    intro m
    induction m with
    | nil => intro b x hx; simp [vals]
    | cons d t ih =>
      intro b x hx
      have hd := gD_range b d.2.1 d.2.2
      have h := ih (!b) (x + gD b d.1) (by omega)
      show x ≤ ((vals t).foldl stp (stp (b, x) d.1)).2 ∧ ((vals t).foldl stp (stp (b, x) d.1)).2 ≤ x + 9 * ((t.length + 1 : Nat) : Int)
      have e : stp (b, x) d.1 = (!b, x + gD b d.1) := rfl
      rw [e]
      omega
  have h := this l true 0 (by omega)
  unfold stB
  omega

set_option maxRecDepth 100000 in
set_option maxHeartbeats 2000000 in
theorem check_any (w : World) (s : ByteArray) (h : headB (sb s) = true) :
    Calls Try.prog 24 #[.string s] w fun e w' => e = .returned (.int .u8 (48 + chkD (sb s))) ∧ Below w.heap.size w w' := by
  have HH := Lib.hid h
  clear h
  refine (callsIn_wide (n := 3)).1 ?_
  refine callsIn_of_wp_marks Try.func24 rfl trivial ?_ rfl
  simp only [Try.ntmps24, List.size_toArray, List.length_cons, List.length_nil, Nat.reduceAdd, Nat.reduceSub, Array.replicate_succ, Array.replicate_zero, List.push_toArray, List.append_toArray, List.nil_append, List.cons_append]
  gi_wp2_with (refine ⟨trivial, ?_⟩; gi_at_call 31; refine (callsIn_wide.2 (digitsBack_any s _)).mono ?_; rintro e w' ⟨rfl, rfl⟩)
  have hz : ((w.alloc (.cells #[.int .i64 0] 3)).alloc (.cells #[.bool true] 4)).heap.size = w.heap.size + 1 + 1 := by simp
  obtain ⟨W0, hW0⟩ : ∃ W0, W0 = ((w.alloc (.cells #[.int .i64 0] 3)).alloc (.cells #[.bool true] 4)).alloc (.cells #[.string s] 9) := ⟨_, rfl⟩
  have b1 : Boxed W0 w.heap.size 3 (.int .i64 0) := by rw [hW0]; exact ((Boxed.new w _ _).alloc _).alloc _
  have b2 : Boxed W0 (w.heap.size + 1) 4 (.bool true) := by
    rw [hW0]
    have := Boxed.new (w.alloc (.cells #[.int .i64 0] 3)) 4 (.bool true)
    rw [World.size_alloc] at this
    exact this.alloc _
  have b3 : W0.heap[w.heap.size + 1 + 1]? = some (.cells #[.string s] 9 (0, 0)) := by
    rw [hW0, ← hz]
    exact block_new _ _
  have hB0 : Below w.heap.size w W0 := by
    rw [hW0]
    exact (((Below.refl _ w).alloc (Nat.le_refl _) _).alloc (by simp) _).alloc (by simp; omega) _
  have hsz : w.heap.size + 1 + 1 < W0.heap.size := by rw [hW0]; simp
  rw [← hW0]
  clear hW0 hz
  refine wpIn_rangeFunc_ownF rfl (by omega) (gf := 32) (lb := #[.pointer (some ⟨w.heap.size + 1 + 1, 0, none⟩)]) rfl trivial (enters_of Try.func32 (by kernel_rfl) rfl)
    (back_stops _ (by omega) (w.heap.size + 1 + 1) s HH.out W0 b3) (fun h k => keepB_t h k) (keepB_b hsz) (Below.refl _ _) (fun _ => rfl)
    (fun pre W => (Boxed W w.heap.size 3 (.int .i64 (stB (vals pre)).2) ∧ Boxed W (w.heap.size + 1) 4 (.bool (stB (vals pre)).1)) ∧ Below w.heap.size w W)
    (fun _ _ _ => False)
    (OwnFrom.and (OwnFrom.and (Own.from (boxed_own _ _ _) _) (Own.from (boxed_own _ _ _) _)) (ownFrom_below (Nat.le_refl _) (by omega)))
    (fun _ _ _ _ _ hs _ _ => hs)
    ⟨⟨b1, b2⟩, hB0⟩
    (fun x => { tmps := #[.string s, undef, .int .u8 0, .pointer (some ⟨w.heap.size, 0, none⟩), .pointer (some ⟨w.heap.size + 1, 0, none⟩), .int .i64 x.1, .string s, .func (.func 32) #[] #[.pointer (some ⟨w.heap.size + 1 + 1, 0, none⟩)], .int .i64 x.1,
      undef, undef, undef, undef, undef, undef, undef, undef, undef, undef, undef, undef, undef, undef, undef, undef, undef, undef], defers := [] }) ?assign ?body ?done ?stop
  case assign =>
    intro l x W K hK
    gi_wp2
    exact hK
  case body =>
    rintro l pre x W ⟨⟨c1, c2⟩, hB⟩ hlen
    obtain ⟨x, x0, x1⟩ := x
    have hr := stB_range pre
    have hsn : Hid (stB (vals (pre ++ [⟨x, x0, x1⟩])) = (!(stB (vals pre)).1, (stB (vals pre)).2 + gD (stB (vals pre)).1 x)) := by show _ = _; rw [vals_snoc, stB_snoc]; rfl
    obtain ⟨t, ht⟩ : ∃ t, t = (stB (vals pre)).2 := ⟨_, rfl⟩
    obtain ⟨b, hb⟩ : ∃ b, b = (stB (vals pre)).1 := ⟨_, rfl⟩
    rw [← ht, ← hb] at hsn
    rw [← ht] at hr c1
    rw [← hb] at c2
    obtain ⟨t0, t1⟩ := hr
    have t2 : t ≤ 198 := by omega
    have d1 := c1.cell
    have f1 := c1.frozen
    have d2 := c2.cell
    have f2 := c2.frozen
    clear ht hb t1 hlen b1 b2 b3 hB0
    have fin : ∀ u, u = gD b x → KeepsOthers W ((W.setCell ⟨w.heap.size, 0, none⟩ (.int .i64 (t + u))).setCell ⟨w.heap.size + 1, 0, none⟩ (.bool (!b))) ∧
        KeepB (w.heap.size + 1 + 1) W ((W.setCell ⟨w.heap.size, 0, none⟩ (.int .i64 (t + u))).setCell ⟨w.heap.size + 1, 0, none⟩ (.bool (!b))) ∧
        (Boxed ((W.setCell ⟨w.heap.size, 0, none⟩ (.int .i64 (t + u))).setCell ⟨w.heap.size + 1, 0, none⟩ (.bool (!b))) w.heap.size 3 (.int .i64 (stB (vals (pre ++ [⟨x, x0, x1⟩]))).2) ∧
          Boxed ((W.setCell ⟨w.heap.size, 0, none⟩ (.int .i64 (t + u))).setCell ⟨w.heap.size + 1, 0, none⟩ (.bool (!b))) (w.heap.size + 1) 4 (.bool (stB (vals (pre ++ [⟨x, x0, x1⟩]))).1)) ∧
        Below w.heap.size w ((W.setCell ⟨w.heap.size, 0, none⟩ (.int .i64 (t + u))).setCell ⟨w.heap.size + 1, 0, none⟩ (.bool (!b))) := by
      rintro u rfl
      refine ⟨(KeepsOthers.setCell _ _ _).trans (KeepsOthers.setCell _ _ _), ?_, ⟨?_, ?_⟩, (hB.setCell (p := ⟨w.heap.size, 0, none⟩) (Nat.le_refl _) _).setCell (p := ⟨w.heap.size + 1, 0, none⟩) (Nat.le_succ _) _⟩
      · exact (Below.heap_setCell _ _ _ _ (by simp)).trans (Below.heap_setCell _ _ _ _ (by simp; omega))
      · rw [hsn.out]; exact (c1.set _).other (by omega) _
      · rw [hsn.out]; exact (c2.other (by omega) _).set _
    have FIN := Lib.hid fin
    clear fin c1 c2
    cases b
    · gi_wp2
      exact FIN.out _ (by unfold gD; simp; omega)
    · gi_wp2
      exact FIN.out _ (by unfold gD; simp; omega)
  case done =>
    rintro D ys W hD hys ⟨⟨c1, _⟩, hB⟩ hK
    have e : Hid ((stB (vals ys)).2 = RF (rowF (sb s))) := by show _ = _; rw [hys, stB_rev]
    have hr := stB_range ys
    obtain ⟨t, ht⟩ : ∃ t, t = (stB (vals ys)).2 := ⟨_, rfl⟩
    rw [← ht] at hr c1 e
    have d1 := c1.cell
    clear ht hys
    gi_wp2
    refine ⟨by simp, .inl ⟨_, _, rfl, run_takeDeferred hK, ?_⟩⟩
    refine ⟨_, results_tmp rfl _ _ _, ?_, hB.trans (belowK_b (w := w) (Nat.le_refl _) W D _ _ (by omega) hK rfl rfl)⟩
    exact ret_int (by unfold chkD; rw [← e.out]; omega)
  case stop =>
    rintro D c pre W _ _ h _
    exact h.elim
end Go.Proofs.Ytcidbmkmnlneiaa.Id
