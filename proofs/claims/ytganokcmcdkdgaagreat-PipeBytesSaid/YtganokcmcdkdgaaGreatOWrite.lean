/-
  The contracts of the writer's takes, stop, write, Count, Number and Byte. Conditions: what is written has room, or there is a mistake.
-/
import Derived.Test.YtganokcmcdkdgaaGreatOGroups
namespace Go.Proofs.YtganokcmcdkdgaaGreat.Oc
open Go.RowKit

/-- The bytes behind a call, if there was no mistake. -/
def addB (er : Int) (l bs : List Int) : List Int := if er = 0 then l ++ bs else l
theorem addB_no (l bs : List Int) : addB 0 l bs = l ++ bs := by unfold addB; rw [if_pos rfl]
theorem addB_yes {er : Int} (h : ¬ er = 0) (l bs : List Int) : addB er l bs = l := by unfold addB; rw [if_neg h]
theorem addB_nil (er : Int) (l : List Int) : addB er l [] = l := by unfold addB; split <;> simp
theorem addB_addB (er : Int) (l bs cs : List Int) : addB er (addB er l bs) cs = addB er l (bs ++ cs) := by unfold addB; split <;> simp
/-- The first mistake. -/
def errB (er x : Int) : Int := if er = 0 then x else er
theorem errB_no (x : Int) : errB 0 x = x := rfl
theorem errB_yes {er : Int} (h : ¬ er = 0) (x : Int) : errB er x = er := by unfold errB; rw [if_neg h]
/-- A slice that holds bytes at the head of a block. -/
def Src (w : World) (u : Value) (bs : List Int) : Prop :=
  ∃ g cap, u = .slice (some ⟨g, 0, none⟩) bs.length cap ∧ ∀ j x, (bv bs)[j]? = some x → w.cell? ((⟨g, 0, none⟩ : Addr).add j) = some x
theorem Src.of_own {w : World} {base : Nat} {u : Value} {bs : List Int} (h : w.ownsRow base 5 1 u bs.length (bv bs)) (hb : 1 ≤ bs.length) : Src w u bs := by
  obtain ⟨g, cap, rfl, _, _⟩ := h.form (by omega)
  exact ⟨g, cap, rfl, h.cells (g := g) rfl⟩
theorem Src.kept {w w' : World} {u : Value} {bs : List Int} (h : Src w u bs) (hb : Below w.heap.size w w') : Src w' u bs := by
  obtain ⟨g, cap, rfl, h1⟩ := h
  refine ⟨g, cap, rfl, fun j x hx => ?_⟩
  have h2 := h1 j x hx
  exact (hb.cell (World.block_lt_of_cell? _ _ h2)).trans h2

set_option maxRecDepth 100000 in
theorem takes_nil (w : World) (n : Int) : Calls Tryz.prog 46 #[.pointer none, .int .i64 n] w fun e w' => e = .returned (.bool false) ∧ w = w' := by
  go_enter Tryz.func46, Tryz.ntmps46
  go_wp2
  go_ret
  exact ⟨rfl, rfl⟩
set_option maxRecDepth 100000 in
theorem takes_bad (w : World) (b : Nat) (er n : Int) (l : List Int) (v : Value) (h : WrR w b er l v) (he : ¬ er = 0) : Calls Tryz.prog 46 #[.pointer (some ⟨b, 0, none⟩), .int .i64 n] w fun e w' => e = .returned (.bool false) ∧ w = w' := by
  have HF := Lib.hid (failed_yes w b er he (block_cell2 h.1).1.1)
  go_enter Tryz.func46, Tryz.ntmps46
  go_wp2_with (go_at_call 55; refine HF.out.mono ?_; rintro e w1 ⟨rfl, rfl⟩)
  go_ret
  exact ⟨rfl, rfl⟩
theorem WrR.shape {w : World} {b : Nat} {er : Int} {l : List Int} {v : Value} (h : WrR w b er l v) : ∃ A cap, v = .slice A l.length cap := by
  rcases h.2.1.2 with ⟨h1, h2⟩ | ⟨g, cap, _, h1, _⟩
  · exact ⟨none, 0, by rw [h1, h2]⟩
  · exact ⟨_, cap, h1⟩
set_option maxRecDepth 100000 in
theorem takes_ok (w : World) (b n : Nat) (l : List Int) (v : Value) (h : WrR w b 0 l v) (hn : l.length + n ≤ 1048576) : Calls Tryz.prog 46 #[.pointer (some ⟨b, 0, none⟩), .int .i64 (n : Int)] w fun e w' => e = .returned (.bool true) ∧ w = w' := by
  have HF := Lib.hid (failed_no w b (block_cell2 h.1).1.1)
  obtain ⟨A, cap, rfl⟩ := h.shape
  obtain ⟨⟨c1, c2⟩, _⟩ := block_cell2 h.1
  obtain ⟨m, hm⟩ : ∃ m, m = l.length := ⟨_, rfl⟩
  rw [← hm] at c2 hn
  have t1 : ¬ (1048576 : Int) - (m : Int) < (n : Int) := by omega
  have hmm := h.2.2
  have t2 : m ≤ 1048576 := by omega
  clear hm hmm h
  go_enter Tryz.func46, Tryz.ntmps46
  go_wp2_with (go_at_call 55; refine HF.out.mono ?_; rintro e w1 ⟨rfl, rfl⟩)
  go_ret
  exact ⟨rfl, rfl⟩
set_option maxRecDepth 100000 in
theorem stop_nil (w : World) (x : Int) : Calls Tryz.prog 44 #[.pointer none, .int .i64 x] w fun e w' => e = .returned (.pointer none) ∧ w = w' := by
  go_enter Tryz.func44, Tryz.ntmps44
  go_wp2
  go_ret
  exact ⟨rfl, rfl⟩
set_option maxRecDepth 100000 in
theorem stop_any (w : World) (b : Nat) (er x : Int) (l : List Int) (v : Value) (h : WrR w b er l v) : Calls Tryz.prog 44 #[.pointer (some ⟨b, 0, none⟩), .int .i64 x] w fun e w' => e = .returned (.pointer (some ⟨b, 0, none⟩)) ∧ WrTo b v w (errB er x) [] w' := by
  obtain ⟨⟨c1, c2⟩, f1, f2⟩ := block_cell2 h.1
  by_cases he : er = 0
  · subst he
    rw [errB_no]
    have HF := Lib.hid (fail_set w b x c1 f1)
    obtain ⟨s1, s2⟩ := wr_set1 h x
    obtain ⟨s3, s4⟩ := wr_clear s1
    have HT : Hid (∀ w', w' = (w.setCell ⟨b, 0, none⟩ (.int .i64 x)).setCell ⟨b, 1, none⟩ (.slice none 0 0) → WrTo b v w x [] w') := fun w' e => by subst e; exact ⟨_, s3, s2.trans s4⟩
    obtain ⟨⟨d1, d2⟩, g1, g2⟩ := block_cell2 s1.1
    clear h c1 c2 f1 f2 s1 s2 s3 s4
    go_enter Tryz.func44, Tryz.ntmps44
    go_wp2_with (go_at_call 75; refine HF.out.mono ?_; rintro e w1 ⟨rfl, rfl⟩)
    go_ret
    exact ⟨rfl, HT.out _ rfl⟩
  · rw [errB_yes he]
    have HF := Lib.hid (fail_no w b er x he c1)
    obtain ⟨s3, s4⟩ := wr_clear h
    have HT : Hid (∀ w', w' = w.setCell ⟨b, 1, none⟩ (.slice none 0 0) → WrTo b v w er [] w') := fun w' e => by subst e; exact ⟨_, s3, s4⟩
    clear h s3 s4
    go_enter Tryz.func44, Tryz.ntmps44
    go_wp2_with (go_at_call 75; refine HF.out.mono ?_; rintro e w1 ⟨rfl, rfl⟩)
    go_ret
    exact ⟨rfl, HT.out _ rfl⟩
set_option maxRecDepth 100000 in
theorem takes_big (w : World) (b n : Nat) (l : List Int) (v : Value) (h : WrR w b 0 l v) (hn : 1048576 < l.length + n) (_hn2 : n < 9223372036854775808) : Calls Tryz.prog 46 #[.pointer (some ⟨b, 0, none⟩), .int .i64 (n : Int)] w fun e w' => e = .returned (.bool false) ∧ WrTo b v w 2 [] w' := by
  have HF := Lib.hid (failed_no w b (block_cell2 h.1).1.1)
  have HS := Lib.hid (stop_any w b 0 2 l v h)
  obtain ⟨A, cap, rfl⟩ := h.shape
  obtain ⟨⟨c1, c2⟩, _⟩ := block_cell2 h.1
  obtain ⟨m, hm⟩ : ∃ m, m = l.length := ⟨_, rfl⟩
  have hmm := h.2.2
  rw [← hm] at c2 hn HS hmm ⊢
  have t1 : (1048576 : Int) - (m : Int) < (n : Int) := by omega
  clear hm h
  go_enter Tryz.func46, Tryz.ntmps46
  go_wp2_with (first
    | (go_at_call 55; refine HF.out.mono ?_; rintro e w1 ⟨rfl, rfl⟩)
    | (go_at_call 44; refine HS.out.mono ?_; rintro e w1 ⟨rfl, h1⟩; have H1 := Lib.hid h1; clear h1))
  go_ret
  exact ⟨rfl, H1.out⟩

set_option maxRecDepth 100000 in
theorem write_nil (w : World) (u : Value) (bs : List Int) (hu : Src w u bs) : Calls Tryz.prog 43 #[.pointer none, u] w fun e w' => e = .returned (.pointer none) ∧ w = w' := by
  obtain ⟨g, cap, rfl, _⟩ := hu
  have HT := Lib.hid (fun n => takes_nil w n)
  go_enter Tryz.func43, Tryz.ntmps43
  go_wp2_with (go_at_call 46; refine (HT.out _).mono ?_; rintro e w1 ⟨rfl, rfl⟩)
  go_ret
  exact ⟨rfl, rfl⟩
set_option maxRecDepth 100000 in
theorem write_any (w : World) (b : Nat) (er : Int) (l bs : List Int) (v u : Value) (h : WrR w b er l v) (hu : Src w u bs) (hb : 1 ≤ bs.length) (hr : er = 0 → l.length + bs.length ≤ 1048576) :
    Calls Tryz.prog 43 #[.pointer (some ⟨b, 0, none⟩), u] w fun e w' => e = .returned (.pointer (some ⟨b, 0, none⟩)) ∧ WrTo b v w er (addB er l bs) w' := by
  obtain ⟨g, cap, rfl, hcell⟩ := hu
  obtain ⟨i0, hi0, hz0, hz1, hz2⟩ := info_parts u8Inf
  obtain ⟨⟨c1, c2⟩, f1, f2⟩ := block_cell2 h.1
  by_cases he : er = 0
  · subst he
    have hr0 := hr rfl
    clear hr
    rw [addB_no]
    have HT := Lib.hid (takes_ok w b bs.length l v h hr0)
    have HO := Lib.hid h.2.1
    have HW := Lib.hid h
    have HC := Lib.hid hcell
    have hlt := h.lt
    have hll := h.2.2
    obtain ⟨n, hn⟩ : ∃ n, n = bs.length := ⟨_, rfl⟩
    have HN := Lib.hid hn
    rw [← hn] at hr0 hb HT ⊢
    clear h hcell hn
    go_enter Tryz.func43, Tryz.ntmps43
    go_wp2_with (first
      | (at_builtin; refine wpList_append_lies _ rfl _ _ 22 rfl (b + 1) 5 i0 _ 1 1 Tryz.underlying22 hi0 hz0 hz1 hz2 rfl (by decide) _ _ _ rfl HO.out ⟨g, 0, none⟩ n cap (bv bs) rfl (by rw [bv_len, HN.out]; omega) HC.out (bv_one _) (by omega) (by unfold maxLen; omega) (by omega) (by omega) _ rfl ?_; intro gg cp w2 hown2 hgrow hat hlt2
         have hb2 : w2.heap[b]? = some (.cells #[.int .i64 0, v] 48 (0, 0)) := (hgrow.block b hlt (fun e => by have := (HO.out.lt b e.symm).1; omega)).trans HW.out.1
         obtain ⟨⟨d1, d2⟩, g1, g2⟩ := block_cell2 hb2
         have HB2 := Lib.hid hb2
         have HOW := Lib.hid hown2
         have HG := Lib.hid hgrow
         have HA := Lib.hid hat
         clear hb2 hown2 hgrow hat)
      | (go_at_call 46; refine HT.out.mono ?_; rintro e w1 ⟨rfl, rfl⟩))
    go_ret
    have fin := wr_grown HW.out (bs := bs) (by rw [← HN.out]; exact HOW.out) HG.out (by
      rcases HA.out with h3 | h3
      · exact .inr (.inl h3.symm)
      · exact .inr (.inr ⟨gg, rfl, by omega⟩)) (by rw [← HN.out]; exact hr0)
    exact ⟨rfl, _, fin.1, fin.2⟩
  · rw [addB_yes he]
    have HT := Lib.hid (takes_bad w b er bs.length l v h he)
    have HW := Lib.hid (WrTo.same h (Below.refl _ _))
    clear h hcell hr
    go_enter Tryz.func43, Tryz.ntmps43
    go_wp2_with (go_at_call 46; refine HT.out.mono ?_; rintro e w1 ⟨rfl, rfl⟩)
    go_ret
    exact ⟨rfl, HW.out⟩

/-! ### Count, Number, Byte -/
set_option maxRecDepth 100000 in
theorem count_nil (w : World) (x : Int) (h1 : -9223372036854775808 ≤ x) (h2 : x < 9223372036854775808) : Calls Tryz.prog 18 #[.pointer none, .int .i64 x] w fun e w' => e = .returned (.pointer none) ∧ Below w.heap.size w w' := by
  by_cases hx : x < 0
  · have HS := Lib.hid (stop_nil w 1)
    go_enter Tryz.func18, Tryz.ntmps18
    go_wp2_with (go_at_call 44; refine HS.out.mono ?_; rintro e w1 ⟨rfl, rfl⟩)
    go_ret
    exact ⟨rfl, Below.refl _ _⟩
  · obtain ⟨n, rfl⟩ : ∃ n : Nat, x = (n : Int) := ⟨x.toNat, by omega⟩
    have HG := Lib.hid (groups_any w n (by omega))
    go_enter Tryz.func18, Tryz.ntmps18
    go_wp2_with (first
      | (go_at_call 43; refine (write_nil w1 u (grp n) (Src.of_own O1.out (grp_len n).2)).mono ?_; rintro e w2 ⟨rfl, rfl⟩)
      | (go_at_call 45; refine HG.out.mono ?_; rintro e w1 ⟨u, rfl, hown, hb1⟩; have O1 := Lib.hid hown; have B1 := Lib.hid hb1; clear hown hb1))
    go_ret
    exact ⟨rfl, B1.out⟩
set_option maxRecDepth 100000 in
theorem count_neg (w : World) (b : Nat) (er x : Int) (l : List Int) (v : Value) (h : WrR w b er l v) (hx : x < 0) : Calls Tryz.prog 18 #[.pointer (some ⟨b, 0, none⟩), .int .i64 x] w fun e w' => e = .returned (.pointer (some ⟨b, 0, none⟩)) ∧ WrTo b v w (errB er 1) [] w' := by
  have HS := Lib.hid (stop_any w b er 1 l v h)
  go_enter Tryz.func18, Tryz.ntmps18
  go_wp2_with (go_at_call 44; refine HS.out.mono ?_; rintro e w1 ⟨rfl, h1⟩; have H1 := Lib.hid h1; clear h1)
  go_ret
  exact ⟨rfl, H1.out⟩
set_option maxRecDepth 100000 in
theorem count_any (w : World) (b : Nat) (er : Int) (n : Nat) (l : List Int) (v : Value) (h : WrR w b er l v) (hn : n < 9223372036854775808) (hr : er = 0 → l.length + (grp n).length ≤ 1048576) : Calls Tryz.prog 18 #[.pointer (some ⟨b, 0, none⟩), .int .i64 (n : Int)] w fun e w' => e = .returned (.pointer (some ⟨b, 0, none⟩)) ∧ WrTo b v w er (addB er l (grp n)) w' := by
  have HG := Lib.hid (groups_any w n (by omega))
  have HW := Lib.hid h
  have HR := Lib.hid hr
  clear h hr
  go_enter Tryz.func18, Tryz.ntmps18
  go_wp2_with (first
    | (go_at_call 43; refine (write_any w1 b er l (grp n) v u (HW.out.below B1.out) (Src.of_own O1.out (grp_len n).2) (grp_len n).2 HR.out).mono ?_; rintro e w2 ⟨rfl, h2⟩; have H2 := Lib.hid (WrTo.trans (WFr.of_below B1.out) h2); clear h2)
    | (go_at_call 45; refine HG.out.mono ?_; rintro e w1 ⟨u, rfl, hown, hb1⟩; have O1 := Lib.hid hown; have B1 := Lib.hid hb1; clear hown hb1))
  go_ret
  exact ⟨rfl, H2.out⟩
theorem fold_lt {x : Int} (h1 : -9223372036854775808 ≤ x) (h2 : x < 9223372036854775808) : fold x < 18446744073709551616 := by unfold fold; split <;> omega
theorem src_one (w : World) (x : Int) : Src (w.alloc (.cells #[.int .u8 x] 5)) (.slice (some ⟨w.heap.size, 0, none⟩) 1 1) [x] := ⟨_, 1, rfl, by simpa [bv] using cell_one_new w (.int .u8 x) 5⟩
set_option maxRecDepth 100000 in
theorem byte_nil (w : World) (x : Int) : Calls Tryz.prog 17 #[.pointer none, .int .u8 x] w fun e w' => e = .returned (.pointer none) ∧ Below w.heap.size w w' := by
  have HB : Hid (Below w.heap.size w (w.alloc (.cells #[.int .u8 x] 5))) := (Below.refl _ _).alloc (Nat.le_refl _) _
  have HW := Lib.hid (write_nil _ _ [x] (src_one w x))
  go_enter Tryz.func17, Tryz.ntmps17
  go_wp2_with (go_at_call 43; refine HW.out.mono ?_; rintro e w2 ⟨rfl, rfl⟩)
  go_ret
  exact ⟨rfl, HB.out⟩
set_option maxRecDepth 100000 in
theorem byte_any (w : World) (b : Nat) (er x : Int) (l : List Int) (v : Value) (h : WrR w b er l v) (hr : er = 0 → l.length + 1 ≤ 1048576) : Calls Tryz.prog 17 #[.pointer (some ⟨b, 0, none⟩), .int .u8 x] w fun e w' => e = .returned (.pointer (some ⟨b, 0, none⟩)) ∧ WrTo b v w er (addB er l [x]) w' := by
  have HB : Hid (Below w.heap.size w (w.alloc (.cells #[.int .u8 x] 5))) := (Below.refl _ _).alloc (Nat.le_refl _) _
  have HW := Lib.hid (write_any _ b er l [x] v _ (h.below HB.out) (src_one w x) (by simp) (by simpa using hr))
  clear h hr
  go_enter Tryz.func17, Tryz.ntmps17
  go_wp2_with (go_at_call 43; refine HW.out.mono ?_; rintro e w2 ⟨rfl, h2⟩; have H2 := Lib.hid (WrTo.trans (WFr.of_below HB.out) h2); clear h2)
  go_ret
  exact ⟨rfl, H2.out⟩
end Go.Proofs.YtganokcmcdkdgaaGreat.Oc
