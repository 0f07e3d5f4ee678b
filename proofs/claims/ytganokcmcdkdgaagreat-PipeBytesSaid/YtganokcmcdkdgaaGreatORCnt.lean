/-
  The contract of the reader's Count. Conditions: none.
-/
import Derived.Test.YtganokcmcdkdgaaGreatPZ12
namespace Go.Proofs.YtganokcmcdkdgaaGreat.Oc
open Go.RowKit

def intO (x : Int) : Obj := .cells #[.int .i64 x] 3 (0, 0)
set_option maxRecDepth 100000 in
set_option maxHeartbeats 1000000 in
theorem count1_ok (w : World) (b B D n : Nat) (most : Int) (l r : List Int) (v : Value) (h : RdR w b 0 l v) (hB : w.heap[B]? = some (boxO b)) (hD : w.heap[D]? = some (intO most)) (hDb : D ≠ b) (hg : rg l = (0, n, r)) (hn : (n : Int) ≤ most) (hm : most < 9223372036854775808) :
    Calls Tryz.prog 83 #[.pointer (some ⟨B, 0, none⟩), .pointer (some ⟨D, 0, none⟩)] w fun e w' => e = .returned (.int .i64 (n : Int)) ∧ RdTo b w 0 r w' := by
  obtain ⟨c1, _⟩ := block_cell hB
  have HC := Lib.hid (rgroups_any w b l v h)
  rw [hg] at HC
  have HDD := Lib.hid hD
  have t1 : ¬ (9223372036854775807 : Int) < (n : Int) := by omega
  have t2 : ¬ most < 0 := by omega
  have t3 : ¬ most < (n : Int) := by omega
  clear h hB hg
  go_enter Tryz.func83, Tryz.ntmps83
  go_wp2_with (go_at_call 84; refine HC.out.mono ?_; rintro e w1 ⟨rfl, hr⟩; have HR := Lib.hid hr; obtain ⟨v1, _, hg1⟩ := hr; have d1 : w1.cell? ⟨D, 0, none⟩ = some (.int .i64 most) := (block_cell (block_grown HDD.out hg1 hDb)).1; clear hg1)
  go_ret
  exact ⟨rfl, HR.out⟩
set_option maxRecDepth 100000 in
set_option maxHeartbeats 1000000 in
theorem count1_err (w : World) (b B D : Nat) (most : Int) (l : List Int) (v : Value) (h : RdR w b 0 l v) (hB : w.heap[B]? = some (boxO b)) (hBb : B ≠ b) (hD : w.heap[D]? = some (intO most)) (hDb : D ≠ b) (hg : ¬ (rg l).1 = 0) (hm0 : -9223372036854775808 ≤ most) (hm : most < 9223372036854775808) :
    Calls Tryz.prog 83 #[.pointer (some ⟨B, 0, none⟩), .pointer (some ⟨D, 0, none⟩)] w fun e w' => ∃ x l', e = .returned x ∧ RdTo b w (rg l).1 l' w' := by
  obtain ⟨c1, _⟩ := block_cell hB
  have HC := Lib.hid (rgroups_any w b l v h)
  have hz : (rg l).2.1 = 0 := rgF_err 10 0 0 l hg
  rw [hz] at HC
  obtain ⟨er, her⟩ : ∃ er, er = (rg l).1 := ⟨_, rfl⟩
  rw [← her] at HC hg ⊢
  have HDD := Lib.hid hD
  have HBB := Lib.hid hB
  clear h hB hz her
  by_cases t2 : most < 0
  · go_enter Tryz.func83, Tryz.ntmps83
    go_wp2_with (first
      | (go_at_call 75; refine (fail_no w1 b er 2 hg HV.out).mono ?_; rintro e w2 ⟨rfl, rfl⟩)
      | (go_at_call 84; refine HC.out.mono ?_; rintro e w1 ⟨rfl, hr⟩; have HR := Lib.hid hr; obtain ⟨v1, h2, hg1⟩ := hr; have HV := Lib.hid (block_cell2 h2.1).1.1; have d1 : w1.cell? ⟨D, 0, none⟩ = some (.int .i64 most) := (block_cell (block_grown HDD.out hg1 hDb)).1; have d2 := (block_cell (block_grown HBB.out hg1 hBb)).1; clear hg1 h2))
    go_ret
    exact ⟨_, _, rfl, HR.out⟩
  · have t3 : ¬ most < ((0 : Nat) : Int) := by omega
    go_enter Tryz.func83, Tryz.ntmps83
    go_wp2_with (first
      | (go_at_call 84; refine HC.out.mono ?_; rintro e w1 ⟨rfl, hr⟩; have HR := Lib.hid hr; obtain ⟨v1, h2, hg1⟩ := hr; have d1 : w1.cell? ⟨D, 0, none⟩ = some (.int .i64 most) := (block_cell (block_grown HDD.out hg1 hDb)).1; clear hg1 h2))
    go_ret
    exact ⟨_, _, rfl, HR.out⟩
set_option maxRecDepth 100000 in
set_option maxHeartbeats 1000000 in
theorem count1_long (w : World) (b B D n : Nat) (most : Int) (l r : List Int) (v : Value) (h : RdR w b 0 l v) (hB : w.heap[B]? = some (boxO b)) (hBb : B ≠ b) (hD : w.heap[D]? = some (intO most)) (hDb : D ≠ b) (hg : rg l = (0, n, r)) (hn : ¬ (n : Int) ≤ most) (hm0 : -9223372036854775808 ≤ most) (hm : most < 9223372036854775808) :
    Calls Tryz.prog 83 #[.pointer (some ⟨B, 0, none⟩), .pointer (some ⟨D, 0, none⟩)] w fun e w' => ∃ x l', e = .returned x ∧ RdTo b w (if n < 9223372036854775808 then 2 else 3) l' w' := by
  obtain ⟨c1, _⟩ := block_cell hB
  have HC := Lib.hid (rgroups_any w b l v h)
  have hn64 := (rg_inv h.2.2.1 hg).1
  rw [hg] at HC
  have HDD := Lib.hid hD
  have HBB := Lib.hid hB
  clear h hB
  by_cases hbig : n < 9223372036854775808
  · rw [if_pos hbig]
    have t1 : ¬ (9223372036854775807 : Int) < (n : Int) := by omega
    by_cases t2 : most < 0
    · clear hn
      go_enter Tryz.func83, Tryz.ntmps83
      go_wp2_with (first
        | (go_at_call 75; refine (fail_set w1 b 2 (block_cell2 HV.out.1).1.1 (block_cell2 HV.out.1).2.1).mono ?_; rintro e w2 ⟨rfl, rfl⟩)
        | (go_at_call 84; refine HC.out.mono ?_; rintro e w1 ⟨rfl, v1, h2, hg1⟩; have HV := Lib.hid h2; have HG1 := Lib.hid hg1; have d1 : w1.cell? ⟨D, 0, none⟩ = some (.int .i64 most) := (block_cell (block_grown HDD.out hg1 hDb)).1; have d2 := (block_cell (block_grown HBB.out hg1 hBb)).1; clear hg1 h2))
      go_ret
      exact ⟨_, _, rfl, _, (rd_set1 HV.out 2).1, grownBy_trans HG1.out (rd_set1 HV.out 2).2⟩
    · have t3 : most < (n : Int) := by omega
      clear hn
      go_enter Tryz.func83, Tryz.ntmps83
      go_wp2_with (first
        | (go_at_call 75; refine (fail_set w1 b 2 (block_cell2 HV.out.1).1.1 (block_cell2 HV.out.1).2.1).mono ?_; rintro e w2 ⟨rfl, rfl⟩)
        | (go_at_call 84; refine HC.out.mono ?_; rintro e w1 ⟨rfl, v1, h2, hg1⟩; have HV := Lib.hid h2; have HG1 := Lib.hid hg1; have d1 : w1.cell? ⟨D, 0, none⟩ = some (.int .i64 most) := (block_cell (block_grown HDD.out hg1 hDb)).1; have d2 := (block_cell (block_grown HBB.out hg1 hBb)).1; clear hg1 h2))
      go_ret
      exact ⟨_, _, rfl, _, (rd_set1 HV.out 2).1, grownBy_trans HG1.out (rd_set1 HV.out 2).2⟩
  · rw [if_neg hbig]
    have t1 : (9223372036854775807 : Int) < (n : Int) := by omega
    by_cases t2 : most < 0
    · clear hn
      go_enter Tryz.func83, Tryz.ntmps83
      go_wp2_with (first
        | (go_at_call 75; with_reducible refine (fail_no w2 b 3 2 (by decide) HV2.out).mono ?_; rintro e w3 ⟨rfl, rfl⟩)
        | (go_at_call 75; refine (fail_set w1 b 3 (block_cell2 HV.out.1).1.1 (block_cell2 HV.out.1).2.1).mono ?_; rintro e w2 ⟨rfl, hw2⟩; have HV2 : Hid (w2.cell? ⟨b, 0, none⟩ = some (.int .i64 3)) := (by rw [hw2]; exact (block_cell2 (rd_set1 HV.out 3).1.1).1.1); have e1 : w2.cell? ⟨D, 0, none⟩ = some (.int .i64 most) := (by rw [hw2]; exact (block_cell (block_grown HDO.out (rd_set1 HV.out 3).2 hDb)).1); have e2 : w2.cell? ⟨B, 0, none⟩ = some (.pointer (some ⟨b, 0, none⟩)) := (by rw [hw2]; exact (block_cell (block_grown HBO.out (rd_set1 HV.out 3).2 hBb)).1); have HW2 := Lib.hid hw2; clear hw2)
        | (go_at_call 84; refine HC.out.mono ?_; rintro e w1 ⟨rfl, v1, h2, hg1⟩; have HV := Lib.hid h2; have HG1 := Lib.hid hg1; have HDO := Lib.hid (block_grown HDD.out hg1 hDb); have HBO := Lib.hid (block_grown HBB.out hg1 hBb); have d2 := (block_cell HBO.out).1; clear hg1 h2))
      go_ret
      have e := HW2.out
      subst e
      exact ⟨_, _, rfl, _, (rd_set1 HV.out 3).1, grownBy_trans HG1.out (rd_set1 HV.out 3).2⟩
    · have t3 : most < (n : Int) := by omega
      clear hn
      go_enter Tryz.func83, Tryz.ntmps83
      go_wp2_with (first
        | (go_at_call 75; with_reducible refine (fail_no w2 b 3 2 (by decide) HV2.out).mono ?_; rintro e w3 ⟨rfl, rfl⟩)
        | (go_at_call 75; refine (fail_set w1 b 3 (block_cell2 HV.out.1).1.1 (block_cell2 HV.out.1).2.1).mono ?_; rintro e w2 ⟨rfl, hw2⟩; have HV2 : Hid (w2.cell? ⟨b, 0, none⟩ = some (.int .i64 3)) := (by rw [hw2]; exact (block_cell2 (rd_set1 HV.out 3).1.1).1.1); have e1 : w2.cell? ⟨D, 0, none⟩ = some (.int .i64 most) := (by rw [hw2]; exact (block_cell (block_grown HDO.out (rd_set1 HV.out 3).2 hDb)).1); have e2 : w2.cell? ⟨B, 0, none⟩ = some (.pointer (some ⟨b, 0, none⟩)) := (by rw [hw2]; exact (block_cell (block_grown HBO.out (rd_set1 HV.out 3).2 hBb)).1); have HW2 := Lib.hid hw2; clear hw2)
        | (go_at_call 84; refine HC.out.mono ?_; rintro e w1 ⟨rfl, v1, h2, hg1⟩; have HV := Lib.hid h2; have HG1 := Lib.hid hg1; have HDO := Lib.hid (block_grown HDD.out hg1 hDb); have HBO := Lib.hid (block_grown HBB.out hg1 hBb); have d2 := (block_cell HBO.out).1; clear hg1 h2))
      go_ret
      have e := HW2.out
      subst e
      exact ⟨_, _, rfl, _, (rd_set1 HV.out 3).1, grownBy_trans HG1.out (rd_set1 HV.out 3).2⟩

/-! ### Count -/
theorem two_boxes (w : World) (b : Nat) (most : Int) : ((w.alloc (boxO b)).alloc (intO most)).heap[w.heap.size]? = some (boxO b) ∧ ((w.alloc (boxO b)).alloc (intO most)).heap[w.heap.size + 1]? = some (intO most) ∧ Below w.heap.size w ((w.alloc (boxO b)).alloc (intO most)) :=
  ⟨block_old (block_new _ _) _, by have := block_new (w.alloc (boxO b)) (intO most); simpa using this, ((Below.refl _ _).alloc (Nat.le_refl _) _).alloc (by simp) _⟩
set_option maxRecDepth 100000 in
theorem rcount_nil (w : World) (most : Int) : Calls Tryz.prog 52 #[.pointer none, .int .i64 most] w fun e w' => e = .returned (.int .i64 0) ∧ Below w.heap.size w w' := by
  have hmf := mkfn
  have HB : Hid (Below w.heap.size w ((w.alloc (.cells #[.pointer none] 54)).alloc (.cells #[.int .i64 most] 3))) := ((Below.refl _ _).alloc (Nat.le_refl _) _).alloc (by simp) _
  go_enter Tryz.func52, Tryz.ntmps52
  go_wp2_with (go_at_call 82; refine (att_nilInt _ _).mono ?_; rintro e w1 ⟨rfl, rfl⟩)
  go_ret
  exact ⟨rfl, HB.out⟩
set_option maxRecDepth 100000 in
theorem rcount_bad (w : World) (b : Nat) (er most : Int) (l : List Int) (v : Value) (h : RdR w b er l v) (he : ¬ er = 0) : Calls Tryz.prog 52 #[.pointer (some ⟨b, 0, none⟩), .int .i64 most] w fun e w' => e = .returned (.int .i64 0) ∧ RdTo b w er l w' := by
  have hmf := mkfn
  have hb2 := (two_boxes w b most).2.2
  have HR : Hid (RdTo b w er l ((w.alloc (boxO b)).alloc (intO most))) := RdTo.same h hb2
  have HC : Hid (((w.alloc (boxO b)).alloc (intO most)).cell? ⟨b, 0, none⟩ = some (.int .i64 er)) := (block_cell2 (h.below hb2).1).1.1
  clear h hb2
  unfold boxO intO at *
  go_enter Tryz.func52, Tryz.ntmps52
  go_wp2_with (go_at_call 82; refine (att_badInt _ b er _ HC.out he).mono ?_; rintro e w1 ⟨rfl, rfl⟩)
  go_ret
  exact ⟨rfl, HR.out⟩
set_option maxRecDepth 100000 in
theorem rcount_ok (w : World) (b n : Nat) (most : Int) (l r : List Int) (v : Value) (h : RdR w b 0 l v) (hg : rg l = (0, n, r)) (hn : (n : Int) ≤ most) (hm : most < 9223372036854775808) : Calls Tryz.prog 52 #[.pointer (some ⟨b, 0, none⟩), .int .i64 most] w fun e w' => e = .returned (.int .i64 (n : Int)) ∧ RdTo b w 0 r w' := by
  have hmf := mkfn
  obtain ⟨hb0, hb1, hb2⟩ := two_boxes w b most
  have HA := Lib.hid (att_okInt ((w.alloc (boxO b)).alloc (intO most)) b l r v (.int .i64 (n : Int)) (h.below hb2) 83 #[.pointer (some ⟨w.heap.size, 0, none⟩), .pointer (some ⟨w.heap.size + 1, 0, none⟩)] (enters_of Tryz.func83 (by kernel_rfl) rfl) (count1_ok _ b w.heap.size (w.heap.size + 1) n most l r v (h.below hb2) hb0 hb1 (by have := h.lt; omega) hg hn hm))
  have HG := Lib.hid (grownBy_of_below (some b) hb2)
  clear h hg hb0 hb1 hb2
  unfold boxO intO at *
  go_enter Tryz.func52, Tryz.ntmps52
  go_wp2_with (go_at_call 82; refine HA.out.mono ?_; rintro e w1 ⟨rfl, h1⟩; have H1 := Lib.hid (RdTo.trans HG.out h1); clear h1)
  go_ret
  exact ⟨rfl, H1.out⟩
set_option maxRecDepth 100000 in
theorem rcount_err (w : World) (b : Nat) (most : Int) (l : List Int) (v : Value) (h : RdR w b 0 l v) (hg : ¬ (rg l).1 = 0) (hm0 : -9223372036854775808 ≤ most) (hm : most < 9223372036854775808) : Calls Tryz.prog 52 #[.pointer (some ⟨b, 0, none⟩), .int .i64 most] w fun e w' => e = .returned (.int .i64 0) ∧ RdTo b w (rg l).1 l w' := by
  have hmf := mkfn
  obtain ⟨hb0, hb1, hb2⟩ := two_boxes w b most
  have HA := Lib.hid (att_errInt ((w.alloc (boxO b)).alloc (intO most)) b (rg l).1 l v (h.below hb2) hg 83 #[.pointer (some ⟨w.heap.size, 0, none⟩), .pointer (some ⟨w.heap.size + 1, 0, none⟩)] (enters_of Tryz.func83 (by kernel_rfl) rfl) (count1_err _ b w.heap.size (w.heap.size + 1) most l v (h.below hb2) hb0 (by have := h.lt; omega) hb1 (by have := h.lt; omega) hg hm0 hm))
  have HG := Lib.hid (grownBy_of_below (some b) hb2)
  clear h hg hb0 hb1 hb2
  unfold boxO intO at *
  go_enter Tryz.func52, Tryz.ntmps52
  go_wp2_with (go_at_call 82; refine HA.out.mono ?_; rintro e w1 ⟨rfl, h1⟩; have H1 := Lib.hid (RdTo.trans HG.out h1); clear h1)
  go_ret
  exact ⟨rfl, H1.out⟩
def longE (n : Nat) : Int := if n < 9223372036854775808 then 2 else 3
theorem longE_ne (n : Nat) : ¬ longE n = 0 := by unfold longE; split <;> decide
set_option maxRecDepth 100000 in
theorem rcount_long (w : World) (b n : Nat) (most : Int) (l r : List Int) (v : Value) (h : RdR w b 0 l v) (hg : rg l = (0, n, r)) (hn : ¬ (n : Int) ≤ most) (hm0 : -9223372036854775808 ≤ most) (hm : most < 9223372036854775808) : Calls Tryz.prog 52 #[.pointer (some ⟨b, 0, none⟩), .int .i64 most] w fun e w' => e = .returned (.int .i64 0) ∧ RdTo b w (longE n) l w' := by
  have hmf := mkfn
  obtain ⟨hb0, hb1, hb2⟩ := two_boxes w b most
  have HA := Lib.hid (att_errInt ((w.alloc (boxO b)).alloc (intO most)) b (longE n) l v (h.below hb2) (longE_ne n) 83 #[.pointer (some ⟨w.heap.size, 0, none⟩), .pointer (some ⟨w.heap.size + 1, 0, none⟩)] (enters_of Tryz.func83 (by kernel_rfl) rfl) (count1_long _ b w.heap.size (w.heap.size + 1) n most l r v (h.below hb2) hb0 (by have := h.lt; omega) hb1 (by have := h.lt; omega) hg hn hm0 hm))
  have HG := Lib.hid (grownBy_of_below (some b) hb2)
  clear h hg hb0 hb1 hb2
  unfold boxO intO at *
  go_enter Tryz.func52, Tryz.ntmps52
  go_wp2_with (go_at_call 82; refine HA.out.mono ?_; rintro e w1 ⟨rfl, h1⟩; have H1 := Lib.hid (RdTo.trans HG.out h1); clear h1)
  go_ret
  exact ⟨rfl, H1.out⟩
end Go.Proofs.YtganokcmcdkdgaaGreat.Oc
