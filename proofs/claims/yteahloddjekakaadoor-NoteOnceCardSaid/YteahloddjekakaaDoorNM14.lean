/-
  The contract of the reader's Count. Conditions: none.
-/
import Derived.Test.YteahloddjekakaaDoorNM13
import Derived.Laws.IdiomStrings
import Derived.Lib.BufferRead
namespace Go.Proofs.YteahloddjekakaaDoor.Oc
open Go.RowKit

def intO (x : Int) : Obj := .cells #[.int .i64 x] 3 (0, 0)
set_option maxRecDepth 100000 in
set_option maxHeartbeats 1000000 in
theorem count1_ok (w : World) (b B D n : Nat) (most : Int) (l r : List Int) (v : Value) (h : RdR w b 0 l v) (hB : w.heap[B]? = some (boxO b)) (hD : w.heap[D]? = some (intO most)) (hDb : D ≠ b) (hg : rg l = (0, n, r)) (hn : (n : Int) ≤ most) (hm : most < 9223372036854775808) :
    Calls Tryd.prog 95 #[.pointer (some ⟨B, 0, none⟩), .pointer (some ⟨D, 0, none⟩)] w fun e w' => e = .returned (.int .i64 (n : Int)) ∧ RdTo b w 0 r w' := by
  obtain ⟨c1, _⟩ := block_cell hB
  have HC := Lib.hid (rgroups_any w b l v h)
  rw [hg] at HC
  have HDD := Lib.hid hD
  have t1 : ¬ (9223372036854775807 : Int) < (n : Int) := by omega
  have t2 : ¬ most < 0 := by omega
  have t3 : ¬ most < (n : Int) := by omega
  clear h hB hg
  go_enter Tryd.func95, Tryd.ntmps95
  go_wp2_with (go_at_call 96; refine HC.out.mono ?_; rintro e w1 ⟨rfl, hr⟩; have HR := Lib.hid hr; obtain ⟨v1, _, hg1⟩ := hr; have d1 : w1.cell? ⟨D, 0, none⟩ = some (.int .i64 most) := (block_cell (block_grown HDD.out hg1 hDb)).1; clear hg1)
  go_ret
  exact ⟨rfl, HR.out⟩
set_option maxRecDepth 100000 in
set_option maxHeartbeats 1000000 in
theorem count1_err (w : World) (b B D : Nat) (most : Int) (l : List Int) (v : Value) (h : RdR w b 0 l v) (hB : w.heap[B]? = some (boxO b)) (hBb : B ≠ b) (hD : w.heap[D]? = some (intO most)) (hDb : D ≠ b) (hg : ¬ (rg l).1 = 0) (hm0 : -9223372036854775808 ≤ most) (hm : most < 9223372036854775808) :
    Calls Tryd.prog 95 #[.pointer (some ⟨B, 0, none⟩), .pointer (some ⟨D, 0, none⟩)] w fun e w' => ∃ x l', e = .returned x ∧ RdTo b w (rg l).1 l' w' := by
  obtain ⟨c1, _⟩ := block_cell hB
  have HC := Lib.hid (rgroups_any w b l v h)
  have hz : (rg l).2.1 = 0 := rgF_err 10 0 0 l hg
  rw [hz] at HC
  obtain ⟨er, her⟩ : ∃ er, er = (rg l).1 := ⟨_, rfl⟩
  rw [← her] at HC hg ⊢
  have HDD := Lib.hid hD
  have HBB := Lib.hid hB
  clear h hB hz her
  by_cases t2 : most < 0
  · go_enter Tryd.func95, Tryd.ntmps95
    go_wp2_with (first
      | (go_at_call 88; refine (fail_no w1 b er 2 hg HV.out).mono ?_; rintro e w2 ⟨rfl, rfl⟩)
      | (go_at_call 96; refine HC.out.mono ?_; rintro e w1 ⟨rfl, hr⟩; have HR := Lib.hid hr; obtain ⟨v1, h2, hg1⟩ := hr; have HV := Lib.hid (block_cell2 h2.1).1.1; have d1 : w1.cell? ⟨D, 0, none⟩ = some (.int .i64 most) := (block_cell (block_grown HDD.out hg1 hDb)).1; have d2 := (block_cell (block_grown HBB.out hg1 hBb)).1; clear hg1 h2))
    go_ret
    exact ⟨_, _, rfl, HR.out⟩
  · have t3 : ¬ most < ((0 : Nat) : Int) := by omega
    go_enter Tryd.func95, Tryd.ntmps95
    go_wp2_with (first
      | (go_at_call 96; refine HC.out.mono ?_; rintro e w1 ⟨rfl, hr⟩; have HR := Lib.hid hr; obtain ⟨v1, h2, hg1⟩ := hr; have d1 : w1.cell? ⟨D, 0, none⟩ = some (.int .i64 most) := (block_cell (block_grown HDD.out hg1 hDb)).1; clear hg1 h2))
    go_ret
    exact ⟨_, _, rfl, HR.out⟩
set_option maxRecDepth 100000 in
set_option maxHeartbeats 1000000 in
theorem count1_long (w : World) (b B D n : Nat) (most : Int) (l r : List Int) (v : Value) (h : RdR w b 0 l v) (hB : w.heap[B]? = some (boxO b)) (hBb : B ≠ b) (hD : w.heap[D]? = some (intO most)) (hDb : D ≠ b) (hg : rg l = (0, n, r)) (hn : ¬ (n : Int) ≤ most) (hm0 : -9223372036854775808 ≤ most) (hm : most < 9223372036854775808) :
    Calls Tryd.prog 95 #[.pointer (some ⟨B, 0, none⟩), .pointer (some ⟨D, 0, none⟩)] w fun e w' => ∃ x l', e = .returned x ∧ RdTo b w (if n < 9223372036854775808 then 2 else 3) l' w' := by
  obtain ⟨c1, _⟩ := block_cell hB
  have HC := Lib.hid (rgroups_any w b l v h)
  have hn64 := (rg_inv h.2.2.1 hg).1
  rw [hg] at HC
  have HDD := Lib.hid hD
  have HBB := Lib.hid hB
  clear h hB
  by_cases hbig : n < 9223372036854775808
  · rw [if_pos hbig]
    have t1 : ¬ (9223372036854775807 : Int) < (n : Int) := by omega
    by_cases t2 : most < 0
    · clear hn
      go_enter Tryd.func95, Tryd.ntmps95
      go_wp2_with (first
        | (go_at_call 88; refine (fail_set w1 b 2 (block_cell2 HV.out.1).1.1 (block_cell2 HV.out.1).2.1).mono ?_; rintro e w2 ⟨rfl, rfl⟩)
        | (go_at_call 96; refine HC.out.mono ?_; rintro e w1 ⟨rfl, v1, h2, hg1⟩; have HV := Lib.hid h2; have HG1 := Lib.hid hg1; have d1 : w1.cell? ⟨D, 0, none⟩ = some (.int .i64 most) := (block_cell (block_grown HDD.out hg1 hDb)).1; have d2 := (block_cell (block_grown HBB.out hg1 hBb)).1; clear hg1 h2))
      go_ret
      exact ⟨_, _, rfl, _, (rd_set1 HV.out 2).1, grownBy_trans HG1.out (rd_set1 HV.out 2).2⟩
    · have t3 : most < (n : Int) := by omega
      clear hn
      go_enter Tryd.func95, Tryd.ntmps95
      go_wp2_with (first
        | (go_at_call 88; refine (fail_set w1 b 2 (block_cell2 HV.out.1).1.1 (block_cell2 HV.out.1).2.1).mono ?_; rintro e w2 ⟨rfl, rfl⟩)
        | (go_at_call 96; refine HC.out.mono ?_; rintro e w1 ⟨rfl, v1, h2, hg1⟩; have HV := Lib.hid h2; have HG1 := Lib.hid hg1; have d1 : w1.cell? ⟨D, 0, none⟩ = some (.int .i64 most) := (block_cell (block_grown HDD.out hg1 hDb)).1; have d2 := (block_cell (block_grown HBB.out hg1 hBb)).1; clear hg1 h2))
      go_ret
      exact ⟨_, _, rfl, _, (rd_set1 HV.out 2).1, grownBy_trans HG1.out (rd_set1 HV.out 2).2⟩
  · rw [if_neg hbig]
    have t1 : (9223372036854775807 : Int) < (n : Int) := by omega
    by_cases t2 : most < 0
    · clear hn
      go_enter Tryd.func95, Tryd.ntmps95
      go_wp2_with (first
        | (go_at_call 88; with_reducible refine (fail_no w2 b 3 2 (by decide) HV2.out).mono ?_; rintro e w3 ⟨rfl, rfl⟩)
        | (go_at_call 88; refine (fail_set w1 b 3 (block_cell2 HV.out.1).1.1 (block_cell2 HV.out.1).2.1).mono ?_; rintro e w2 ⟨rfl, hw2⟩; have HV2 : Hid (w2.cell? ⟨b, 0, none⟩ = some (.int .i64 3)) := (by rw [hw2]; exact (block_cell2 (rd_set1 HV.out 3).1.1).1.1); have e1 : w2.cell? ⟨D, 0, none⟩ = some (.int .i64 most) := (by rw [hw2]; exact (block_cell (block_grown HDO.out (rd_set1 HV.out 3).2 hDb)).1); have e2 : w2.cell? ⟨B, 0, none⟩ = some (.pointer (some ⟨b, 0, none⟩)) := (by rw [hw2]; exact (block_cell (block_grown HBO.out (rd_set1 HV.out 3).2 hBb)).1); have HW2 := Lib.hid hw2; clear hw2)
        | (go_at_call 96; refine HC.out.mono ?_; rintro e w1 ⟨rfl, v1, h2, hg1⟩; have HV := Lib.hid h2; have HG1 := Lib.hid hg1; have HDO := Lib.hid (block_grown HDD.out hg1 hDb); have HBO := Lib.hid (block_grown HBB.out hg1 hBb); have d2 := (block_cell HBO.out).1; clear hg1 h2))
      go_ret
      have e := HW2.out
      subst e
      exact ⟨_, _, rfl, _, (rd_set1 HV.out 3).1, grownBy_trans HG1.out (rd_set1 HV.out 3).2⟩
    · have t3 : most < (n : Int) := by omega
      clear hn
      go_enter Tryd.func95, Tryd.ntmps95
      go_wp2_with (first
        | (go_at_call 88; with_reducible refine (fail_no w2 b 3 2 (by decide) HV2.out).mono ?_; rintro e w3 ⟨rfl, rfl⟩)
        | (go_at_call 88; refine (fail_set w1 b 3 (block_cell2 HV.out.1).1.1 (block_cell2 HV.out.1).2.1).mono ?_; rintro e w2 ⟨rfl, hw2⟩; have HV2 : Hid (w2.cell? ⟨b, 0, none⟩ = some (.int .i64 3)) := (by rw [hw2]; exact (block_cell2 (rd_set1 HV.out 3).1.1).1.1); have e1 : w2.cell? ⟨D, 0, none⟩ = some (.int .i64 most) := (by rw [hw2]; exact (block_cell (block_grown HDO.out (rd_set1 HV.out 3).2 hDb)).1); have e2 : w2.cell? ⟨B, 0, none⟩ = some (.pointer (some ⟨b, 0, none⟩)) := (by rw [hw2]; exact (block_cell (block_grown HBO.out (rd_set1 HV.out 3).2 hBb)).1); have HW2 := Lib.hid hw2; clear hw2)
        | (go_at_call 96; refine HC.out.mono ?_; rintro e w1 ⟨rfl, v1, h2, hg1⟩; have HV := Lib.hid h2; have HG1 := Lib.hid hg1; have HDO := Lib.hid (block_grown HDD.out hg1 hDb); have HBO := Lib.hid (block_grown HBB.out hg1 hBb); have d2 := (block_cell HBO.out).1; clear hg1 h2))
      go_ret
      have e := HW2.out
      subst e
      exact ⟨_, _, rfl, _, (rd_set1 HV.out 3).1, grownBy_trans HG1.out (rd_set1 HV.out 3).2⟩

/-! ### Count -/
theorem two_boxes (w : World) (b : Nat) (most : Int) : ((w.alloc (boxO b)).alloc (intO most)).heap[w.heap.size]? = some (boxO b) ∧ ((w.alloc (boxO b)).alloc (intO most)).heap[w.heap.size + 1]? = some (intO most) ∧ Below w.heap.size w ((w.alloc (boxO b)).alloc (intO most)) :=
  ⟨block_old (block_new _ _) _, by have := block_new (w.alloc (boxO b)) (intO most); simpa using this, ((Below.refl _ _).alloc (Nat.le_refl _) _).alloc (by simp) _⟩
set_option maxRecDepth 100000 in
theorem rcount_nil (w : World) (most : Int) : Calls Tryd.prog 73 #[.pointer none, .int .i64 most] w fun e w' => e = .returned (.int .i64 0) ∧ Below w.heap.size w w' := by
  have hmf := mkfn
  have HB : Hid (Below w.heap.size w ((w.alloc (.cells #[.pointer none] 86)).alloc (.cells #[.int .i64 most] 3))) := ((Below.refl _ _).alloc (Nat.le_refl _) _).alloc (by simp) _
  go_enter Tryd.func73, Tryd.ntmps73
  go_wp2_with (go_at_call 94; refine (att_nilInt _ _).mono ?_; rintro e w1 ⟨rfl, rfl⟩)
  go_ret
  exact ⟨rfl, HB.out⟩
set_option maxRecDepth 100000 in
theorem rcount_bad (w : World) (b : Nat) (er most : Int) (l : List Int) (v : Value) (h : RdR w b er l v) (he : ¬ er = 0) : Calls Tryd.prog 73 #[.pointer (some ⟨b, 0, none⟩), .int .i64 most] w fun e w' => e = .returned (.int .i64 0) ∧ RdTo b w er l w' := by
  have hmf := mkfn
  have hb2 := (two_boxes w b most).2.2
  have HR : Hid (RdTo b w er l ((w.alloc (boxO b)).alloc (intO most))) := RdTo.same h hb2
  have HC : Hid (((w.alloc (boxO b)).alloc (intO most)).cell? ⟨b, 0, none⟩ = some (.int .i64 er)) := (block_cell2 (h.below hb2).1).1.1
  clear h hb2
  unfold boxO intO at *
  go_enter Tryd.func73, Tryd.ntmps73
  go_wp2_with (go_at_call 94; refine (att_badInt _ b er _ HC.out he).mono ?_; rintro e w1 ⟨rfl, rfl⟩)
  go_ret
  exact ⟨rfl, HR.out⟩
set_option maxRecDepth 100000 in
theorem rcount_ok (w : World) (b n : Nat) (most : Int) (l r : List Int) (v : Value) (h : RdR w b 0 l v) (hg : rg l = (0, n, r)) (hn : (n : Int) ≤ most) (hm : most < 9223372036854775808) : Calls Tryd.prog 73 #[.pointer (some ⟨b, 0, none⟩), .int .i64 most] w fun e w' => e = .returned (.int .i64 (n : Int)) ∧ RdTo b w 0 r w' := by
  have hmf := mkfn
  obtain ⟨hb0, hb1, hb2⟩ := two_boxes w b most
  have HA := Lib.hid (att_okInt ((w.alloc (boxO b)).alloc (intO most)) b l r v (.int .i64 (n : Int)) (h.below hb2) 95 #[.pointer (some ⟨w.heap.size, 0, none⟩), .pointer (some ⟨w.heap.size + 1, 0, none⟩)] (enters_of Tryd.func95 (by kernel_rfl) rfl) (count1_ok _ b w.heap.size (w.heap.size + 1) n most l r v (h.below hb2) hb0 hb1 (by have := h.lt; omega) hg hn hm))
  have HG := Lib.hid (grownBy_of_below (some b) hb2)
  clear h hg hb0 hb1 hb2
  unfold boxO intO at *
  go_enter Tryd.func73, Tryd.ntmps73
  go_wp2_with (go_at_call 94; refine HA.out.mono ?_; rintro e w1 ⟨rfl, h1⟩; have H1 := Lib.hid (RdTo.trans HG.out h1); clear h1)
  go_ret
  exact ⟨rfl, H1.out⟩
set_option maxRecDepth 100000 in
theorem rcount_err (w : World) (b : Nat) (most : Int) (l : List Int) (v : Value) (h : RdR w b 0 l v) (hg : ¬ (rg l).1 = 0) (hm0 : -9223372036854775808 ≤ most) (hm : most < 9223372036854775808) : Calls Tryd.prog 73 #[.pointer (some ⟨b, 0, none⟩), .int .i64 most] w fun e w' => e = .returned (.int .i64 0) ∧ RdTo b w (rg l).1 l w' := by
  have hmf := mkfn
  obtain ⟨hb0, hb1, hb2⟩ := two_boxes w b most
  have HA := Lib.hid (att_errInt ((w.alloc (boxO b)).alloc (intO most)) b (rg l).1 l v (h.below hb2) hg 95 #[.pointer (some ⟨w.heap.size, 0, none⟩), .pointer (some ⟨w.heap.size + 1, 0, none⟩)] (enters_of Tryd.func95 (by kernel_rfl) rfl) (count1_err _ b w.heap.size (w.heap.size + 1) most l v (h.below hb2) hb0 (by have := h.lt; omega) hb1 (by have := h.lt; omega) hg hm0 hm))
  have HG := Lib.hid (grownBy_of_below (some b) hb2)
  clear h hg hb0 hb1 hb2
  unfold boxO intO at *
  go_enter Tryd.func73, Tryd.ntmps73
  go_wp2_with (go_at_call 94; refine HA.out.mono ?_; rintro e w1 ⟨rfl, h1⟩; have H1 := Lib.hid (RdTo.trans HG.out h1); clear h1)
  go_ret
  exact ⟨rfl, H1.out⟩
def longE (n : Nat) : Int := if n < 9223372036854775808 then 2 else 3
theorem longE_ne (n : Nat) : ¬ longE n = 0 := by unfold longE; split <;> decide
set_option maxRecDepth 100000 in
theorem rcount_long (w : World) (b n : Nat) (most : Int) (l r : List Int) (v : Value) (h : RdR w b 0 l v) (hg : rg l = (0, n, r)) (hn : ¬ (n : Int) ≤ most) (hm0 : -9223372036854775808 ≤ most) (hm : most < 9223372036854775808) : Calls Tryd.prog 73 #[.pointer (some ⟨b, 0, none⟩), .int .i64 most] w fun e w' => e = .returned (.int .i64 0) ∧ RdTo b w (longE n) l w' := by
  have hmf := mkfn
  obtain ⟨hb0, hb1, hb2⟩ := two_boxes w b most
  have HA := Lib.hid (att_errInt ((w.alloc (boxO b)).alloc (intO most)) b (longE n) l v (h.below hb2) (longE_ne n) 95 #[.pointer (some ⟨w.heap.size, 0, none⟩), .pointer (some ⟨w.heap.size + 1, 0, none⟩)] (enters_of Tryd.func95 (by kernel_rfl) rfl) (count1_long _ b w.heap.size (w.heap.size + 1) n most l r v (h.below hb2) hb0 (by have := h.lt; omega) hb1 (by have := h.lt; omega) hg hn hm0 hm))
  have HG := Lib.hid (grownBy_of_below (some b) hb2)
  clear h hg hb0 hb1 hb2
  unfold boxO intO at *
  go_enter Tryd.func73, Tryd.ntmps73
  go_wp2_with (go_at_call 94; refine HA.out.mono ?_; rintro e w1 ⟨rfl, h1⟩; have H1 := Lib.hid (RdTo.trans HG.out h1); clear h1)
  go_ret
  exact ⟨rfl, H1.out⟩
end Go.Proofs.YteahloddjekakaaDoor.Oc

namespace Go.Proofs.YteahloddjekakaaDoor.Oc
open Go.RowKit

theorem conv_any {w : World} {u : Value} {l : List Int} (h : BAt w u l) (hb : bok l) : (convert 45 9 u).run Tryd.prog w = .ok (.string (strOf l)) w := by
  obtain ⟨A, cap, rfl, _, hc⟩ := h
  have hl : (u8s l).length = l.length := by simp [u8s]
  cases A with
  | none =>
    cases l with
    | nil => exact Lib.run_convert_nil_bytes w 45 9 5 cap Tryd.underlying45 Tryd.underlying5 Tryd.underlying9
    | cons x r => obtain ⟨g, o, h1, _⟩ := hc (by simp); cases h1
  | some a =>
    have := run_convert_bytes_back (P := Tryd.prog) w 45 9 5 a cap (u8s l) Tryd.underlying45 Tryd.underlying5 Tryd.underlying9 (fun j hj => by
      rw [hl] at hj
      obtain ⟨g, o, h1, _, h3⟩ := hc (by omega)
      cases h1
      rw [show (Addr.mk g o none).add j = ⟨g, o + j, none⟩ by unfold Addr.add; split <;> simp_all, h3 j hj]
      have hx : l.getD j 0 = l[j] := by simp [List.getD, List.getElem?_eq_getElem hj]
      have := hb l[j] (List.getElem_mem hj)
      rw [hx]
      simp [u8s]
      omega)
    rw [hl] at this
    exact this
theorem BAt.drew {w : World} {u : Value} {l : List Int} (h : BAt w u l) : BAt w.drew u l := h.kept (Below.refl _ _).drew
theorem RdR.drew {w : World} {b : Nat} {er : Int} {l : List Int} {v : Value} (h : RdR w b er l v) : RdR w.drew b er l v := h.below (Below.refl _ _).drew
theorem bok_take {l : List Int} (h : bok l) (n : Nat) : bok (l.take n) := fun x hx => h x (List.mem_of_mem_take hx)

set_option maxRecDepth 100000 in
set_option maxHeartbeats 2000000 in
theorem text1_any (w : World) (b B D n : Nat) (most er1 er2 : Int) (l1 l2 bs : List Int) (hB : w.heap[B]? = some (boxO b)) (hBb : B ≠ b) (hD : w.heap[D]? = some (intO most)) (hDb : D ≠ b) (hbs : bok bs)
    (hc : Calls Tryd.prog 73 #[.pointer (some ⟨b, 0, none⟩), .int .i64 most] w.drew fun e w' => e = .returned (.int .i64 (n : Int)) ∧ RdTo b w.drew er1 l1 w')
    (hk : ∀ W v, RdR W b er1 l1 v → Calls Tryd.prog 93 #[.pointer (some ⟨b, 0, none⟩), .int .i64 (n : Int)] W fun e w' => ∃ u, e = .returned u ∧ BAt w' u bs ∧ RdTo b W er2 l2 w') :
    Calls Tryd.prog 99 #[.pointer (some ⟨B, 0, none⟩), .pointer (some ⟨D, 0, none⟩)] w fun e w' => e = .returned (.string (strOf bs)) ∧ RdTo b w er2 l2 w' := by
  obtain ⟨c1, _⟩ := block_cell hB
  obtain ⟨c2, _⟩ := block_cell hD
  have HC := Lib.hid hc
  have HK := Lib.hid hk
  have HDD := Lib.hid hD
  have HBB := Lib.hid hB
  have HBS := Lib.hid hbs
  clear hB hD hc hk hbs
  go_enter Tryd.func99, Tryd.ntmps99
  go_wp2_with fail
  go_region_with (first
      | (go_at_call 93; refine (HK.out w1 v1 HV.out).mono ?_; rintro e w2 ⟨u, rfl, hba, hrd⟩
         obtain ⟨A3, m3, c3, rfl⟩ : ∃ A m c, u = Value.slice A m c := (by obtain ⟨A, c, h, _⟩ := hba; exact ⟨A, _, c, h⟩)
         have hcv := conv_any hba HBS.out
         have HRD := Lib.hid (RdTo.trans HG1.out hrd)
         clear hba)
      | (go_at_call 73; refine HC.out.mono ?_; rintro e w1 ⟨rfl, v1, h2, hg1⟩
         have HV := Lib.hid h2
         have d1 := (block_cell (block_grown (w := w.drew) HBB.out hg1 hBb)).1
         have d2 := (block_cell (block_grown (w := w.drew) HDD.out hg1 hDb)).1
         have HG1 := Lib.hid (grownBy_trans (grownBy_drew w (some b)) hg1)
         clear h2 hg1))
  all_goals
    go_wp2
    go_ret
    exact ⟨rfl, HRD.out⟩

/-! ### Text -/
set_option maxRecDepth 100000 in
theorem rtext_nil (w : World) (most : Int) : Calls Tryd.prog 75 #[.pointer none, .int .i64 most] w fun e w' => e = .returned (.string ByteArray.empty) ∧ Below w.heap.size w w' := by
  have hmf := mkfn
  have HB : Hid (Below w.heap.size w ((w.alloc (.cells #[.pointer none] 86)).alloc (.cells #[.int .i64 most] 3))) := ((Below.refl _ _).alloc (Nat.le_refl _) _).alloc (by simp) _
  go_enter Tryd.func75, Tryd.ntmps75
  go_wp2_with (go_at_call 98; refine (att_nilStr _ _).mono ?_; rintro e w1 ⟨rfl, rfl⟩)
  go_ret
  exact ⟨rfl, HB.out⟩
set_option maxRecDepth 100000 in
/-- What Text leaves, out of what its closure does. -/
theorem rtext_of (w : World) (b : Nat) (most : Int) (x : Value) (P : World → Prop) (ha : Calls Tryd.prog 98 #[.pointer (some ⟨b, 0, none⟩), .func (.func 99) #[] #[.pointer (some ⟨w.heap.size, 0, none⟩), .pointer (some ⟨w.heap.size + 1, 0, none⟩)]] ((w.alloc (boxO b)).alloc (intO most)) fun e w' => e = .returned x ∧ P w') :
    Calls Tryd.prog 75 #[.pointer (some ⟨b, 0, none⟩), .int .i64 most] w fun e w' => e = .returned x ∧ P w' := by
  have hmf := mkfn
  have HA := Lib.hid ha
  clear ha
  unfold boxO intO at *
  go_enter Tryd.func75, Tryd.ntmps75
  go_wp2_with (go_at_call 98; refine HA.out.mono ?_; rintro e w1 ⟨rfl, h1⟩)
  go_ret
  exact ⟨rfl, h1⟩
theorem rtext_ok (w : World) (b n : Nat) (most : Int) (l r : List Int) (v : Value) (h : RdR w b 0 l v) (hg : rg l = (0, n, r)) (hn : (n : Int) ≤ most) (hm : most < 9223372036854775808) (hr : n ≤ r.length) :
    Calls Tryd.prog 75 #[.pointer (some ⟨b, 0, none⟩), .int .i64 most] w fun e w' => e = .returned (.string (strOf (r.take n))) ∧ RdTo b w 0 (r.drop n) w' := by
  obtain ⟨hb0, hb1, hb2⟩ := two_boxes w b most
  have hl := h.lt
  have hrb : bok r := fun x hx => h.2.2.1 x (by rw [(rg_inv h.2.2.1 hg).2]; exact List.mem_append_right _ hx)
  refine rtext_of w b most _ _ ((att_okStr _ b l (r.drop n) v _ (h.below hb2) 99 _ (enters_of Tryd.func99 (by kernel_rfl) rfl)
    (text1_any _ b w.heap.size (w.heap.size + 1) n most 0 0 r (r.drop n) (r.take n) hb0 (by omega) hb1 (by omega) (bok_take hrb n) (rcount_ok _ b n most l r v (h.below hb2).drew hg hn hm) (fun W v1 h1 => cut_ok W b 0 r v1 n h1 hr))).mono fun e w' h1 => ⟨h1.1, RdTo.trans (grownBy_of_below _ hb2) h1.2⟩)
theorem rtext_short (w : World) (b n : Nat) (most : Int) (l r : List Int) (v : Value) (h : RdR w b 0 l v) (hg : rg l = (0, n, r)) (hn : (n : Int) ≤ most) (hm : most < 9223372036854775808) (hr : r.length < n) :
    Calls Tryd.prog 75 #[.pointer (some ⟨b, 0, none⟩), .int .i64 most] w fun e w' => e = .returned (.string ByteArray.empty) ∧ RdTo b w 12 l w' := by
  obtain ⟨hb0, hb1, hb2⟩ := two_boxes w b most
  have hl := h.lt
  refine rtext_of w b most _ _ ((att_errStr _ b 12 l v (h.below hb2) (by decide) 99 _ (enters_of Tryd.func99 (by kernel_rfl) rfl)
    ((text1_any _ b w.heap.size (w.heap.size + 1) n most 0 12 r r [] hb0 (by omega) hb1 (by omega) (fun x hx => absurd hx (List.not_mem_nil)) (rcount_ok _ b n most l r v (h.below hb2).drew hg hn hm)
      (fun W v1 h1 => (cut_end W b r v1 n h1 hr).mono fun e w' h2 => ⟨_, h2.1, ⟨none, 0, rfl, Nat.le_refl _, fun h => by simp at h⟩, h2.2⟩)).mono fun e w' h1 => ⟨_, _, h1.1, h1.2⟩)).mono fun e w' h1 => ⟨h1.1, RdTo.trans (grownBy_of_below _ hb2) h1.2⟩)
theorem rtext_err (w : World) (b : Nat) (most er : Int) (l : List Int) (v : Value) (h : RdR w b 0 l v) (he : ¬ er = 0)
    (hc : ∀ W, RdR W b 0 l v → Calls Tryd.prog 73 #[.pointer (some ⟨b, 0, none⟩), .int .i64 most] W fun e w' => e = .returned (.int .i64 0) ∧ RdTo b W er l w') :
    Calls Tryd.prog 75 #[.pointer (some ⟨b, 0, none⟩), .int .i64 most] w fun e w' => e = .returned (.string ByteArray.empty) ∧ RdTo b w er l w' := by
  obtain ⟨hb0, hb1, hb2⟩ := two_boxes w b most
  have hl := h.lt
  refine rtext_of w b most _ _ ((att_errStr _ b er l v (h.below hb2) he 99 _ (enters_of Tryd.func99 (by kernel_rfl) rfl)
    ((text1_any _ b w.heap.size (w.heap.size + 1) 0 most er er l l [] hb0 (by omega) hb1 (by omega) (fun x hx => absurd hx (List.not_mem_nil)) (hc _ (h.below hb2).drew)
      (fun W v1 h1 => cut_ok W b er l v1 0 h1 (Nat.zero_le _))).mono fun e w' h1 => ⟨_, _, h1.1, h1.2⟩)).mono fun e w' h1 => ⟨h1.1, RdTo.trans (grownBy_of_below _ hb2) h1.2⟩)
end Go.Proofs.YteahloddjekakaaDoor.Oc
