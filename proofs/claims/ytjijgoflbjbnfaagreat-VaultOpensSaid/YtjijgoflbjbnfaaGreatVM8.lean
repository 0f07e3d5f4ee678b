/-
  The contract of the reader's Count. Conditions: none.
-/
import Derived.Test.YtjijgoflbjbnfaaGreatVM7
import Derived.Test.YtjijgoflbjbnfaaGreatVM4
import Derived.Test.YtjijgoflbjbnfaaGreatVM6
import Derived.Test.YtjijgoflbjbnfaaGreatVM5
namespace Go.Proofs.YtjijgoflbjbnfaaGreat.Oc
open Go.RowKit

def intO (x : Int) : Obj := .cells #[.int .i64 x] 3 (0, 0)
set_option maxRecDepth 100000 in
set_option maxHeartbeats 1000000 in
theorem count1_ok (w : World) (b B D n : Nat) (most : Int) (l r : List Int) (v : Value) (h : RdR w b 0 l v) (hB : w.heap[B]? = some (boxO b)) (hD : w.heap[D]? = some (intO most)) (hDb : D ≠ b) (hg : rg l = (0, n, r)) (hn : (n : Int) ≤ most) (hm : most < 9223372036854775808) :
    Calls Tryz.prog 140 #[.pointer (some ⟨B, 0, none⟩), .pointer (some ⟨D, 0, none⟩)] w fun e w' => e = .returned (.int .i64 (n : Int)) ∧ RdTo b w 0 r w' := by
  obtain ⟨c1, _⟩ := block_cell hB
  have HC := Lib.hid (rgroups_any w b l v h)
  rw [hg] at HC
  have HDD := Lib.hid hD
  have t1 : ¬ (9223372036854775807 : Int) < (n : Int) := by omega
  have t2 : ¬ most < 0 := by omega
  have t3 : ¬ most < (n : Int) := by omega
  clear h hB hg
  go_enter Tryz.func140, Tryz.ntmps140
  go_wp2_with (go_at_call 141; refine HC.out.mono ?_; rintro e w1 ⟨rfl, hr⟩; have HR := Lib.hid hr; obtain ⟨v1, _, hg1⟩ := hr; have d1 : w1.cell? ⟨D, 0, none⟩ = some (.int .i64 most) := (block_cell (block_grown HDD.out hg1 hDb)).1; clear hg1)
  go_ret
  exact ⟨rfl, HR.out⟩
set_option maxRecDepth 100000 in
set_option maxHeartbeats 1000000 in
theorem count1_err (w : World) (b B D : Nat) (most : Int) (l : List Int) (v : Value) (h : RdR w b 0 l v) (hB : w.heap[B]? = some (boxO b)) (hBb : B ≠ b) (hD : w.heap[D]? = some (intO most)) (hDb : D ≠ b) (hg : ¬ (rg l).1 = 0) (hm0 : -9223372036854775808 ≤ most) (hm : most < 9223372036854775808) :
    Calls Tryz.prog 140 #[.pointer (some ⟨B, 0, none⟩), .pointer (some ⟨D, 0, none⟩)] w fun e w' => ∃ x l', e = .returned x ∧ RdTo b w (rg l).1 l' w' := by
  obtain ⟨c1, _⟩ := block_cell hB
  have HC := Lib.hid (rgroups_any w b l v h)
  have hz : (rg l).2.1 = 0 := rgF_err 10 0 0 l hg
  rw [hz] at HC
  obtain ⟨er, her⟩ : ∃ er, er = (rg l).1 := ⟨_, rfl⟩
  rw [← her] at HC hg ⊢
  have HDD := Lib.hid hD
  have HBB := Lib.hid hB
  clear h hB hz her
  by_cases t2 : most < 0
  · go_enter Tryz.func140, Tryz.ntmps140
    go_wp2_with (first
      | (go_at_call 142; refine (fail_no w1 b er 2 hg HV.out).mono ?_; rintro e w2 ⟨rfl, rfl⟩)
      | (go_at_call 141; refine HC.out.mono ?_; rintro e w1 ⟨rfl, hr⟩; have HR := Lib.hid hr; obtain ⟨v1, h2, hg1⟩ := hr; have HV := Lib.hid (block_cell2 h2.1).1.1; have d1 : w1.cell? ⟨D, 0, none⟩ = some (.int .i64 most) := (block_cell (block_grown HDD.out hg1 hDb)).1; have d2 := (block_cell (block_grown HBB.out hg1 hBb)).1; clear hg1 h2))
    go_ret
    exact ⟨_, _, rfl, HR.out⟩
  · have t3 : ¬ most < ((0 : Nat) : Int) := by omega
    go_enter Tryz.func140, Tryz.ntmps140
    go_wp2_with (first
      | (go_at_call 141; refine HC.out.mono ?_; rintro e w1 ⟨rfl, hr⟩; have HR := Lib.hid hr; obtain ⟨v1, h2, hg1⟩ := hr; have d1 : w1.cell? ⟨D, 0, none⟩ = some (.int .i64 most) := (block_cell (block_grown HDD.out hg1 hDb)).1; clear hg1 h2))
    go_ret
    exact ⟨_, _, rfl, HR.out⟩
set_option maxRecDepth 100000 in
set_option maxHeartbeats 1000000 in
theorem count1_long (w : World) (b B D n : Nat) (most : Int) (l r : List Int) (v : Value) (h : RdR w b 0 l v) (hB : w.heap[B]? = some (boxO b)) (hBb : B ≠ b) (hD : w.heap[D]? = some (intO most)) (hDb : D ≠ b) (hg : rg l = (0, n, r)) (hn : ¬ (n : Int) ≤ most) (hm0 : -9223372036854775808 ≤ most) (hm : most < 9223372036854775808) :
    Calls Tryz.prog 140 #[.pointer (some ⟨B, 0, none⟩), .pointer (some ⟨D, 0, none⟩)] w fun e w' => ∃ x l', e = .returned x ∧ RdTo b w (if n < 9223372036854775808 then 2 else 3) l' w' := by
  obtain ⟨c1, _⟩ := block_cell hB
  have HC := Lib.hid (rgroups_any w b l v h)
  have hn64 := (rg_inv h.2.2.1 hg).1
  rw [hg] at HC
  have HDD := Lib.hid hD
  have HBB := Lib.hid hB
  clear h hB
  by_cases hbig : n < 9223372036854775808
  · rw [if_pos hbig]
    have t1 : ¬ (9223372036854775807 : Int) < (n : Int) := by omega
    by_cases t2 : most < 0
    · clear hn
      go_enter Tryz.func140, Tryz.ntmps140
      go_wp2_with (first
        | (go_at_call 142; refine (fail_set w1 b 2 (block_cell2 HV.out.1).1.1 (block_cell2 HV.out.1).2.1).mono ?_; rintro e w2 ⟨rfl, rfl⟩)
        | (go_at_call 141; refine HC.out.mono ?_; rintro e w1 ⟨rfl, v1, h2, hg1⟩; have HV := Lib.hid h2; have HG1 := Lib.hid hg1; have d1 : w1.cell? ⟨D, 0, none⟩ = some (.int .i64 most) := (block_cell (block_grown HDD.out hg1 hDb)).1; have d2 := (block_cell (block_grown HBB.out hg1 hBb)).1; clear hg1 h2))
      go_ret
      exact ⟨_, _, rfl, _, (rd_set1 HV.out 2).1, grownBy_trans HG1.out (rd_set1 HV.out 2).2⟩
    · have t3 : most < (n : Int) := by omega
      clear hn
      go_enter Tryz.func140, Tryz.ntmps140
      go_wp2_with (first
        | (go_at_call 142; refine (fail_set w1 b 2 (block_cell2 HV.out.1).1.1 (block_cell2 HV.out.1).2.1).mono ?_; rintro e w2 ⟨rfl, rfl⟩)
        | (go_at_call 141; refine HC.out.mono ?_; rintro e w1 ⟨rfl, v1, h2, hg1⟩; have HV := Lib.hid h2; have HG1 := Lib.hid hg1; have d1 : w1.cell? ⟨D, 0, none⟩ = some (.int .i64 most) := (block_cell (block_grown HDD.out hg1 hDb)).1; have d2 := (block_cell (block_grown HBB.out hg1 hBb)).1; clear hg1 h2))
      go_ret
      exact ⟨_, _, rfl, _, (rd_set1 HV.out 2).1, grownBy_trans HG1.out (rd_set1 HV.out 2).2⟩
  · rw [if_neg hbig]
    have t1 : (9223372036854775807 : Int) < (n : Int) := by omega
    by_cases t2 : most < 0
    · clear hn
      go_enter Tryz.func140, Tryz.ntmps140
      go_wp2_with (first
        | (go_at_call 142; with_reducible refine (fail_no w2 b 3 2 (by decide) HV2.out).mono ?_; rintro e w3 ⟨rfl, rfl⟩)
        | (go_at_call 142; refine (fail_set w1 b 3 (block_cell2 HV.out.1).1.1 (block_cell2 HV.out.1).2.1).mono ?_; rintro e w2 ⟨rfl, hw2⟩; have HV2 : Hid (w2.cell? ⟨b, 0, none⟩ = some (.int .i64 3)) := (by rw [hw2]; exact (block_cell2 (rd_set1 HV.out 3).1.1).1.1); have e1 : w2.cell? ⟨D, 0, none⟩ = some (.int .i64 most) := (by rw [hw2]; exact (block_cell (block_grown HDO.out (rd_set1 HV.out 3).2 hDb)).1); have e2 : w2.cell? ⟨B, 0, none⟩ = some (.pointer (some ⟨b, 0, none⟩)) := (by rw [hw2]; exact (block_cell (block_grown HBO.out (rd_set1 HV.out 3).2 hBb)).1); have HW2 := Lib.hid hw2; clear hw2)
        | (go_at_call 141; refine HC.out.mono ?_; rintro e w1 ⟨rfl, v1, h2, hg1⟩; have HV := Lib.hid h2; have HG1 := Lib.hid hg1; have HDO := Lib.hid (block_grown HDD.out hg1 hDb); have HBO := Lib.hid (block_grown HBB.out hg1 hBb); have d2 := (block_cell HBO.out).1; clear hg1 h2))
      go_ret
      have e := HW2.out
      subst e
      exact ⟨_, _, rfl, _, (rd_set1 HV.out 3).1, grownBy_trans HG1.out (rd_set1 HV.out 3).2⟩
    · have t3 : most < (n : Int) := by omega
      clear hn
      go_enter Tryz.func140, Tryz.ntmps140
      go_wp2_with (first
        | (go_at_call 142; with_reducible refine (fail_no w2 b 3 2 (by decide) HV2.out).mono ?_; rintro e w3 ⟨rfl, rfl⟩)
        | (go_at_call 142; refine (fail_set w1 b 3 (block_cell2 HV.out.1).1.1 (block_cell2 HV.out.1).2.1).mono ?_; rintro e w2 ⟨rfl, hw2⟩; have HV2 : Hid (w2.cell? ⟨b, 0, none⟩ = some (.int .i64 3)) := (by rw [hw2]; exact (block_cell2 (rd_set1 HV.out 3).1.1).1.1); have e1 : w2.cell? ⟨D, 0, none⟩ = some (.int .i64 most) := (by rw [hw2]; exact (block_cell (block_grown HDO.out (rd_set1 HV.out 3).2 hDb)).1); have e2 : w2.cell? ⟨B, 0, none⟩ = some (.pointer (some ⟨b, 0, none⟩)) := (by rw [hw2]; exact (block_cell (block_grown HBO.out (rd_set1 HV.out 3).2 hBb)).1); have HW2 := Lib.hid hw2; clear hw2)
        | (go_at_call 141; refine HC.out.mono ?_; rintro e w1 ⟨rfl, v1, h2, hg1⟩; have HV := Lib.hid h2; have HG1 := Lib.hid hg1; have HDO := Lib.hid (block_grown HDD.out hg1 hDb); have HBO := Lib.hid (block_grown HBB.out hg1 hBb); have d2 := (block_cell HBO.out).1; clear hg1 h2))
      go_ret
      have e := HW2.out
      subst e
      exact ⟨_, _, rfl, _, (rd_set1 HV.out 3).1, grownBy_trans HG1.out (rd_set1 HV.out 3).2⟩

/-! ### Count -/
theorem two_boxes (w : World) (b : Nat) (most : Int) : ((w.alloc (boxO b)).alloc (intO most)).heap[w.heap.size]? = some (boxO b) ∧ ((w.alloc (boxO b)).alloc (intO most)).heap[w.heap.size + 1]? = some (intO most) ∧ Below w.heap.size w ((w.alloc (boxO b)).alloc (intO most)) :=
  ⟨block_old (block_new _ _) _, by have := block_new (w.alloc (boxO b)) (intO most); simpa using this, ((Below.refl _ _).alloc (Nat.le_refl _) _).alloc (by simp) _⟩
set_option maxRecDepth 100000 in
theorem rcount_nil (w : World) (most : Int) : Calls Tryz.prog 113 #[.pointer none, .int .i64 most] w fun e w' => e = .returned (.int .i64 0) ∧ Below w.heap.size w w' := by
  have hmf := mkfn
  have HB : Hid (Below w.heap.size w ((w.alloc (.cells #[.pointer none] 169)).alloc (.cells #[.int .i64 most] 3))) := ((Below.refl _ _).alloc (Nat.le_refl _) _).alloc (by simp) _
  go_enter Tryz.func113, Tryz.ntmps113
  go_wp2_with (go_at_call 139; refine (att_nilInt _ _).mono ?_; rintro e w1 ⟨rfl, rfl⟩)
  go_ret
  exact ⟨rfl, HB.out⟩
set_option maxRecDepth 100000 in
theorem rcount_bad (w : World) (b : Nat) (er most : Int) (l : List Int) (v : Value) (h : RdR w b er l v) (he : ¬ er = 0) : Calls Tryz.prog 113 #[.pointer (some ⟨b, 0, none⟩), .int .i64 most] w fun e w' => e = .returned (.int .i64 0) ∧ RdTo b w er l w' := by
  have hmf := mkfn
  have hb2 := (two_boxes w b most).2.2
  have HR : Hid (RdTo b w er l ((w.alloc (boxO b)).alloc (intO most))) := RdTo.same h hb2
  have HC : Hid (((w.alloc (boxO b)).alloc (intO most)).cell? ⟨b, 0, none⟩ = some (.int .i64 er)) := (block_cell2 (h.below hb2).1).1.1
  clear h hb2
  unfold boxO intO at *
  go_enter Tryz.func113, Tryz.ntmps113
  go_wp2_with (go_at_call 139; refine (att_badInt _ b er _ HC.out he).mono ?_; rintro e w1 ⟨rfl, rfl⟩)
  go_ret
  exact ⟨rfl, HR.out⟩
set_option maxRecDepth 100000 in
theorem rcount_ok (w : World) (b n : Nat) (most : Int) (l r : List Int) (v : Value) (h : RdR w b 0 l v) (hg : rg l = (0, n, r)) (hn : (n : Int) ≤ most) (hm : most < 9223372036854775808) : Calls Tryz.prog 113 #[.pointer (some ⟨b, 0, none⟩), .int .i64 most] w fun e w' => e = .returned (.int .i64 (n : Int)) ∧ RdTo b w 0 r w' := by
  have hmf := mkfn
  obtain ⟨hb0, hb1, hb2⟩ := two_boxes w b most
  have HA := Lib.hid (att_okInt ((w.alloc (boxO b)).alloc (intO most)) b l r v (.int .i64 (n : Int)) (h.below hb2) 140 #[.pointer (some ⟨w.heap.size, 0, none⟩), .pointer (some ⟨w.heap.size + 1, 0, none⟩)] (enters_of Tryz.func140 (by kernel_rfl) rfl) (count1_ok _ b w.heap.size (w.heap.size + 1) n most l r v (h.below hb2) hb0 hb1 (by have := h.lt; omega) hg hn hm))
  have HG := Lib.hid (grownBy_of_below (some b) hb2)
  clear h hg hb0 hb1 hb2
  unfold boxO intO at *
  go_enter Tryz.func113, Tryz.ntmps113
  go_wp2_with (go_at_call 139; refine HA.out.mono ?_; rintro e w1 ⟨rfl, h1⟩; have H1 := Lib.hid (RdTo.trans HG.out h1); clear h1)
  go_ret
  exact ⟨rfl, H1.out⟩
set_option maxRecDepth 100000 in
theorem rcount_err (w : World) (b : Nat) (most : Int) (l : List Int) (v : Value) (h : RdR w b 0 l v) (hg : ¬ (rg l).1 = 0) (hm0 : -9223372036854775808 ≤ most) (hm : most < 9223372036854775808) : Calls Tryz.prog 113 #[.pointer (some ⟨b, 0, none⟩), .int .i64 most] w fun e w' => e = .returned (.int .i64 0) ∧ RdTo b w (rg l).1 l w' := by
  have hmf := mkfn
  obtain ⟨hb0, hb1, hb2⟩ := two_boxes w b most
  have HA := Lib.hid (att_errInt ((w.alloc (boxO b)).alloc (intO most)) b (rg l).1 l v (h.below hb2) hg 140 #[.pointer (some ⟨w.heap.size, 0, none⟩), .pointer (some ⟨w.heap.size + 1, 0, none⟩)] (enters_of Tryz.func140 (by kernel_rfl) rfl) (count1_err _ b w.heap.size (w.heap.size + 1) most l v (h.below hb2) hb0 (by have := h.lt; omega) hb1 (by have := h.lt; omega) hg hm0 hm))
  have HG := Lib.hid (grownBy_of_below (some b) hb2)
  clear h hg hb0 hb1 hb2
  unfold boxO intO at *
  go_enter Tryz.func113, Tryz.ntmps113
  go_wp2_with (go_at_call 139; refine HA.out.mono ?_; rintro e w1 ⟨rfl, h1⟩; have H1 := Lib.hid (RdTo.trans HG.out h1); clear h1)
  go_ret
  exact ⟨rfl, H1.out⟩
def longE (n : Nat) : Int := if n < 9223372036854775808 then 2 else 3
theorem longE_ne (n : Nat) : ¬ longE n = 0 := by unfold longE; split <;> decide
set_option maxRecDepth 100000 in
theorem rcount_long (w : World) (b n : Nat) (most : Int) (l r : List Int) (v : Value) (h : RdR w b 0 l v) (hg : rg l = (0, n, r)) (hn : ¬ (n : Int) ≤ most) (hm0 : -9223372036854775808 ≤ most) (hm : most < 9223372036854775808) : Calls Tryz.prog 113 #[.pointer (some ⟨b, 0, none⟩), .int .i64 most] w fun e w' => e = .returned (.int .i64 0) ∧ RdTo b w (longE n) l w' := by
  have hmf := mkfn
  obtain ⟨hb0, hb1, hb2⟩ := two_boxes w b most
  have HA := Lib.hid (att_errInt ((w.alloc (boxO b)).alloc (intO most)) b (longE n) l v (h.below hb2) (longE_ne n) 140 #[.pointer (some ⟨w.heap.size, 0, none⟩), .pointer (some ⟨w.heap.size + 1, 0, none⟩)] (enters_of Tryz.func140 (by kernel_rfl) rfl) (count1_long _ b w.heap.size (w.heap.size + 1) n most l r v (h.below hb2) hb0 (by have := h.lt; omega) hb1 (by have := h.lt; omega) hg hn hm0 hm))
  have HG := Lib.hid (grownBy_of_below (some b) hb2)
  clear h hg hb0 hb1 hb2
  unfold boxO intO at *
  go_enter Tryz.func113, Tryz.ntmps113
  go_wp2_with (go_at_call 139; refine HA.out.mono ?_; rintro e w1 ⟨rfl, h1⟩; have H1 := Lib.hid (RdTo.trans HG.out h1); clear h1)
  go_ret
  exact ⟨rfl, H1.out⟩
end Go.Proofs.YtjijgoflbjbnfaaGreat.Oc

namespace Go.Proofs.YtjijgoflbjbnfaaGreat.Jo
open Go.RowKit Fr
attribute [local go_sem] Oper.semAt_some

theorem oc_at {w : World} {v : Value} {l : List Int} (h : BAt w v l) : Oc.BAt w v l := h
theorem grp_bok {n : Nat} (h : n < 18446744073709551616) : bok (Oc.grp n) := Oc.grp_bok h
theorem alloc_below (w : World) (o : Obj) : Below w.heap.size w (w.alloc o) := (Below.refl _ _).alloc (Nat.le_refl _) _
/-- The bytes of a record's frame. -/
def recF (n : Nat) (l : List Int) : List Int := frF (Oc.grp n ++ l)
theorem recF_len (n : Nat) (l : List Int) : (recF n l).length = (Oc.grp n).length + l.length + 8 := by
  unfold recF; rw [frF_len, List.length_append]
/-- Bytes behind a row, with the length by name. -/
theorem app_named {w : World} {base k m p : Nat} {v x : Value} {l b : List Int} (hown : w.ownsRow base 5 1 v k (bv l)) (hk : k = l.length) (hx : BAt w x b) (hm : b.length = m) (hp : p = k + m) (hb : p ≤ 4000000) (hbase : base ≤ w.heap.size) :
    ∃ A cap w', (Builtin.append_ #[32, 32] 32 #[v, x]).run Tryz.prog w = .ok (.slice A p cap) w' ∧ BAt w' (.slice A p cap) (l ++ b) ∧ w'.ownsRow base 5 1 (.slice A p cap) (l ++ b).length (bv (l ++ b)) ∧ w.grownBy w' v.ownBlock := by
  subst hk hm hp
  obtain ⟨A, cap, w', h1, h2, h3⟩ := app_any w base v l hown x b hx hb hbase
  exact ⟨A, cap, w', h1, BAt.of_own h2, h2, h3⟩
theorem make_atK (w : World) (A : Option Addr) (m c q : Nat) (l : List Int) (h : BAt w (.slice A m c) l) (hb : bok l) (hm : m ≤ 1048568) (hq : q = m + 8) :
    Calls Tryz.prog 88 #[.slice A m c] w fun e w' => ∃ A' c', e = .returned (.tuple #[.slice A' q c', .int .i64 0]) ∧ (BAt w' (.slice A' q c') (frF l) ∧ BK (fun k => w.heap.size ≤ k) (.slice A' q c') (frF l)) ∧ Below w.heap.size w w' := by
  have hl := h.len.1
  refine (make_any w _ l h hb (by omega)).mono fun e w' ⟨⟨A', c', h1, h2⟩, h3⟩ => ?_
  rw [hl, ← hq] at h1 h2
  refine ⟨A', c', h1, ⟨BAt.of_own h2, fun _ a n c ha => ?_⟩, h3⟩
  cases ha
  exact (h2.lt a.block rfl).1
set_option maxRecDepth 100000 in
set_option maxHeartbeats 4000000 in
theorem seal_any (w : World) (n : Nat) (A : Option Addr) (m c : Nat) (l : List Int) (h : BAt w (.slice A m c) l) (hb : bok l) (hm : m ≤ 1000) (hn : n < 9223372036854775808) :
    Calls Tryz.prog 57 #[.int .i64 (n : Int), .slice A m c] w fun e w' => ∃ A' q c', e = .returned (.tuple #[.slice A' q c', .int .i64 0]) ∧ q = (recF n l).length ∧ (BAt w' (.slice A' q c') (recF n l) ∧ BK (fun k => w.heap.size ≤ k) (.slice A' q c') (recF n l)) ∧ Below w.heap.size w w' := by
  obtain ⟨b, hbz⟩ : ∃ b, b = w.heap.size := ⟨_, rfl⟩
  have hw0 : Oc.WrR (w.alloc (.cells #[.int .i64 0, .slice none 0 0] 146)) b 0 [] (.slice none 0 0) := ⟨by rw [hbz]; exact block_new _ _, World.ownsRow_nil _ _ _ _, by simp⟩
  obtain ⟨hg1, hg2⟩ := Oc.grp_len n
  have HC := Lib.hid (Oc.count_any _ b 0 n [] _ hw0 hn (fun _ => by simp; omega))
  have HB0 : Hid (Below b w (w.alloc (.cells #[.int .i64 0, .slice none 0 0] 146))) := by rw [hbz]; exact alloc_below _ _
  have HW0 := Lib.hid hw0
  have HL := Lib.hid h
  have hlm := h.len.1
  obtain ⟨k, hk⟩ : ∃ k, k = (Oc.grp n).length := ⟨_, rfl⟩
  obtain ⟨p, hp⟩ : ∃ p, p = k + m := ⟨_, rfl⟩
  obtain ⟨q, hq⟩ : ∃ q, q = p + 8 := ⟨_, rfl⟩
  have HD : Hid (k = (Oc.grp n).length ∧ p = k + m ∧ q = p + 8 ∧ l.length = m ∧ k ≤ 10 ∧ bok l) := ⟨hk, hp, hq, hlm, by omega, hb⟩
  have hfin : q = (recF n l).length := by rw [recF_len]; omega
  have HF := Lib.hid hfin
  have hp2 : p ≤ 1010 := by omega
  subst hbz
  clear hw0 h hb hg1 hg2 hlm hk hp hq hfin hm
  go_enter Tryz.func57, Tryz.ntmps57
  go_wp2_with (first
    | (go_at_call 88; (with_reducible refine HM.out.mono ?_); rintro e w5 ⟨A5, c5, rfl, ha5, hb5⟩; have HA5 := Lib.hid ha5; have HB5 := Lib.hid (HB4.out.trans (hb5.mono HB4.out.size)); clear ha5 hb5)
    | (at_builtin; refine Lib.wpList_append_run _ rfl _ _ 32 32 rfl _ _ rfl rfl _ _ HR.out ?_)
    | (go_at_call 87; (with_reducible refine HDN.out.mono ?_); rintro e w3 ⟨A3, c3, rfl, ho3, hb3⟩
       have HB3 : Hid (Below w.heap.size w w3) := HB2.out.trans (hb3.mono HB2.out.size)
       obtain ⟨A4, c4, w4, hr4, hb4, ho4, hg4⟩ := app_named (p := p) ho3 HD.out.1 (HL.out.kept HB3.out) HD.out.2.2.2.1 HD.out.2.1 (by omega) hb3.size
       have HR := Lib.hid hr4
       have HB4 : Hid (Below w.heap.size w w4) := HB3.out.grown hg4 HB3.out.size (fun j hj => by have := (ho3.lt j hj).1; have := HB2.out.size; omega)
       have hm4 := make_atK w4 A4 p c4 q (Oc.grp n ++ l) hb4 (bok_app (grp_bok (by omega)) HD.out.2.2.2.2.2) (by omega) HD.out.2.2.1
       have HM := Lib.hid hm4
       clear ho3 hb3 ho4 hg4 hr4 hm4 hb4)
    | (go_at_call 86; (with_reducible refine HC.out.mono ?_); rintro e w2 ⟨rfl, h2⟩
       obtain ⟨v2, hw2, hf2⟩ := h2
       have hw2' : Oc.WrR w2 w.heap.size 0 (Oc.grp n) v2 := by
         have e : Oc.addB 0 [] (Oc.grp n) = Oc.grp n := by rw [Oc.addB_no]; rfl
         rw [e] at hw2; exact hw2
       have HB2 : Hid (Below w.heap.size w w2) := HB0.out.trans (hf2.below HW0.out (Nat.le_refl _))
       have hdn := Oc.wdone_any w2 w.heap.size 0 (Oc.grp n) v2 hw2'
       rw [← HD.out.1] at hdn
       have HDN := Lib.hid hdn
       clear hw2 hf2 hw2' hdn))
  go_ret2
  exact ⟨A5, q, c5, rfl, HF.out, ⟨HA5.out.1, fun hp a n c ha => Nat.le_trans HB4.out.size (HA5.out.2 hp a n c ha)⟩, HB5.out⟩
end Go.Proofs.YtjijgoflbjbnfaaGreat.Jo

namespace Go.Proofs.YtjijgoflbjbnfaaGreat.Jo
open Go.RowKit Fr
attribute [local go_sem] Oper.semAt_some

/-- A record's body: its number and its bytes. -/
def dec (l : List Int) : Option (Nat × List Int) := if (Oc.rg l).1 = 0 ∧ (Oc.rg l).2.1 ≤ 4611686018427387903 then some (Oc.rg l).2 else none
set_option maxRecDepth 100000 in
theorem ok_yes {w : World} {b : Nat} {l : List Int} {v : Value} (h : Oc.RdR w b 0 l v) : Calls Tryz.prog 115 #[.pointer (some ⟨b, 0, none⟩)] w fun e w' => e = .returned (.bool true) ∧ w = w' := by
  obtain ⟨⟨c1, c2⟩, _⟩ := block_cell2 h.1
  have HF := Lib.hid (Oc.failed_no w b c1)
  clear h
  go_enter Tryz.func115, Tryz.ntmps115
  go_wp2_with (go_at_call 143; (with_reducible refine HF.out.mono ?_); rintro e w' ⟨rfl, rfl⟩)
  go_ret
  exact ⟨rfl, rfl⟩
set_option maxRecDepth 100000 in
theorem ok_no {w : World} {b : Nat} {er : Int} {l : List Int} {v : Value} (h : Oc.RdR w b er l v) (he : ¬ er = 0) : Calls Tryz.prog 115 #[.pointer (some ⟨b, 0, none⟩)] w fun e w' => e = .returned (.bool false) ∧ w = w' := by
  obtain ⟨⟨c1, c2⟩, _⟩ := block_cell2 h.1
  have HF := Lib.hid (Oc.failed_yes w b er he c1)
  clear h
  go_enter Tryz.func115, Tryz.ntmps115
  go_wp2_with (go_at_call 143; (with_reducible refine HF.out.mono ?_); rintro e w' ⟨rfl, rfl⟩)
  go_ret
  exact ⟨rfl, rfl⟩
/-- Count at most the greatest: the mistake, the number, what is left. -/
theorem count_at {w : World} {b : Nat} {l : List Int} {v : Value} (h : Oc.RdR w b 0 l v) :
    ∃ (er : Int) (z : Nat) (r : List Int), Calls Tryz.prog 113 #[.pointer (some ⟨b, 0, none⟩), .int .i64 4611686018427387903] w (fun e w' => e = .returned (.int .i64 (z : Int)) ∧ Oc.RdTo b w er r w') ∧ z ≤ 4611686018427387903 ∧ (er = 0 → dec l = some (z, r)) ∧ (¬ er = 0 → dec l = none ∧ r = l ∧ z = 0) := by
  by_cases hg : (Oc.rg l).1 = 0
  · by_cases hn : (Oc.rg l).2.1 ≤ 4611686018427387903
    · have e1 : Oc.rg l = (0, (Oc.rg l).2.1, (Oc.rg l).2.2) := by rw [← hg]
      exact ⟨0, _, _, Oc.rcount_ok w b _ _ l _ v h e1 (by omega) (by decide), hn, fun _ => by unfold dec; rw [if_pos ⟨hg, hn⟩], fun h => absurd rfl h⟩
    · have e1 : Oc.rg l = (0, (Oc.rg l).2.1, (Oc.rg l).2.2) := by rw [← hg]
      exact ⟨_, 0, l, Oc.rcount_long w b _ _ l _ v h e1 (by omega) (by decide) (by decide), by omega, fun h => absurd h (Oc.longE_ne _), fun _ => ⟨by unfold dec; rw [if_neg (fun h => hn h.2)], rfl, rfl⟩⟩
  · exact ⟨_, 0, l, Oc.rcount_err w b _ l v h hg (by decide) (by decide), by omega, fun h => absurd h hg, fun _ => ⟨by unfold dec; rw [if_neg (fun h => hg h.1)], rfl, rfl⟩⟩
/-- What unseal tells. -/
def Uns (w : World) (v : Value) (l : List Int) (e : Ending) (w' : World) : Prop :=
  Below w.heap.size w w' ∧ ∃ (z : Nat) (A : Option Addr) (k c : Nat) (ok : Bool), e = .returned (.tuple #[.agg #[.int .i64 (z : Int), .slice A k c], .bool ok]) ∧ z ≤ 4611686018427387903 ∧
    ((ok = true ∧ ∃ r, dec l = some (z, r) ∧ BAt w' (.slice A k c) r ∧ ∀ K, BK K v l → BK K (.slice A k c) r) ∨ (ok = false ∧ dec l = none))
theorem rg_back {l r : List Int} {n : Nat} (hb : bok l) (h : Oc.rg l = (0, n, r)) : r.length ≤ l.length ∧ l.drop (l.length - r.length) = r := by
  obtain ⟨_, h2⟩ := Oc.rg_inv hb h
  rw [h2, List.length_append]
  refine ⟨by omega, ?_⟩
  rw [Nat.add_sub_cancel, List.drop_left' rfl]
theorem dec_back {l r : List Int} {n : Nat} (hb : bok l) (h : dec l = some (n, r)) : r.length ≤ l.length ∧ l.drop (l.length - r.length) = r := by
  unfold dec at h
  split at h
  · rename_i hc
    have h2 := Option.some.inj h
    exact rg_back hb (n := n) (by rw [← hc.1, ← h2])
  · cases h
set_option maxRecDepth 100000 in
set_option maxHeartbeats 4000000 in
theorem unseal_any (w : World) (A : Option Addr) (m c : Nat) (l : List Int) (h : BAt w (.slice A m c) l) (hb : bok l) (hm : m ≤ 1000000) :
    Calls Tryz.prog 80 #[.slice A m c] w (Uns w (.slice A m c) l) := by
  have hl := h.len
  have h1 : BAt (w.alloc (.cells #[.int .i64 0, .slice none 0 0] 100)) (.slice A m c) l := h.kept (alloc_below _ _)
  have HR := Lib.hid (Oc.read_any _ _ l h1 hb (by omega))
  have HL := Lib.hid h1
  have H0 := Lib.hid h
  have HB := Lib.hid hb
  have HM : Hid (l.length = m ∧ m ≤ c) := hl
  have HA0 := Lib.hid (alloc_below w (.cells #[.int .i64 0, .slice none 0 0] 100))
  have hbk := block_new w (.cells #[.int .i64 0, .slice none 0 0] 100)
  clear h h1 hb hl
  go_enter Tryz.func80, Tryz.ntmps80
  go_upto_region 2 with (go_at_call 112; (with_reducible refine HR.out.mono ?_); rintro e w2 ⟨b, u, rfl, hbz, hr, hbl⟩; have HRD := Lib.hid hr; have HB2 := Lib.hid hbl; have HBZ := Lib.hid hbz; clear hr hbl hbz)
  obtain ⟨er, z, r, hc, hz, hok, hno⟩ := count_at HRD.out
  have HC := Lib.hid hc
  clear hc
  go_upto_region 3 with (go_at_call 113; (with_reducible refine HC.out.mono ?_); rintro e w3 ⟨rfl, u3, hr3, hg3⟩; have HR3 := Lib.hid hr3; have HG3 := Lib.hid hg3; clear hr3 hg3)
  have hrl : r.length ≤ m ∧ l.drop (m - r.length) = r := by
    rw [← HM.out.1]
    by_cases he : er = 0
    · exact dec_back HB.out (hok he)
    · rw [(hno he).2.1]; exact ⟨Nat.le_refl _, by simp⟩
  obtain ⟨k, hk⟩ : ∃ k, k = r.length := ⟨_, rfl⟩
  rw [← hk] at hrl
  have HHL := Lib.hid hrl
  have hkm : k ≤ m := hrl.1
  obtain ⟨A', hA', hs⟩ := slice_from A m c (m - k) (by omega) HM.out.2
  have hL3 := HB2.out.grown HG3.out HB2.out.size (fun j hj => by cases hj; exact HBZ.out)
  have hB3 := HA0.out.trans (hL3.mono HA0.out.size)
  have b3 := block_kept hbk hL3
  have hba : BAt w (.slice A' k (c - (m - k))) r := by
    have h4 := H0.out.from (m - k) hA' (by omega)
    rw [HHL.out.2] at h4
    have e5 : m - (m - k) = k := by omega
    rw [e5] at h4
    exact h4
  have e1 : (m : Int) - (k : Int) = ((m - k : Nat) : Int) := by omega
  have e5 : m - (m - k) = k := by omega
  rw [e5] at hs
  obtain ⟨c', hc'⟩ : ∃ c', c' = c - (m - k) := ⟨_, rfl⟩
  rw [← hc'] at hs hba
  obtain ⟨q, hq⟩ : ∃ q, q = m - k := ⟨_, rfl⟩
  rw [← hq] at hs e1
  have hbk2 : ∀ K, BK K (.slice A m c) l → BK K (.slice A' k c') r := fun K hK hp a n2 c2 ha => by
    obtain ⟨A0, c0, h1, _, h3⟩ := H0.out
    obtain ⟨g, o, h4, _⟩ := h3 (by have := HM.out.1; omega)
    cases h1
    have h6 := hA' (by omega) g o h4
    cases ha
    cases h6
    exact hK (by have := HM.out.1; omega) ⟨g, o, none⟩ _ _ (by rw [h4])
  have HBK2 := Lib.hid hbk2
  have HBA := Lib.hid hba
  have HBK := Lib.hid b3
  have HB3 := Lib.hid hB3
  obtain ⟨⟨p0, p1⟩, pf0, pf1⟩ := block_cell2 b3
  have hrs2 : ∀ W, Oc.RdR W b er r u3 → Calls Tryz.prog 114 #[.pointer (some ⟨b, 0, none⟩)] W fun e w' => e = .returned (.int .i64 (k : Int)) ∧ W = w' := fun W hW => by rw [hk]; exact Oc.rest_any W b er r u3 hW
  have hwr : IntKind.i64.wrap ((m : Int) - (k : Int)) = (q : Int) := by rw [IntKind.wrap_i64]; omega
  have HR2 := Lib.hid hrs2
  obtain ⟨ok, hokv, hokc⟩ : ∃ ok : Bool, (∀ W, Oc.RdR W b er r u3 → Calls Tryz.prog 115 #[.pointer (some ⟨b, 0, none⟩)] W fun e w' => e = .returned (.bool ok) ∧ W = w') ∧ ((ok = true ∧ er = 0) ∨ (ok = false ∧ ¬ er = 0)) := by
    by_cases he : er = 0
    · exact ⟨true, fun W hW => ok_yes (by rw [← he]; exact hW), .inl ⟨rfl, he⟩⟩
    · exact ⟨false, fun W hW => ok_no hW he, .inr ⟨rfl, he⟩⟩
  have HOK := Lib.hid hokv
  have HOC := Lib.hid hokc
  have HK := Lib.hid hk
  have HOK1 := Lib.hid hok
  have HOK2 := Lib.hid hno
  clear hokv hokc hk hrs2 hc' hq hrl hL3 hB3 hba hA' hok hno hbk2 e5 hbk b3 e1
  go_region_held3 (fun w' => True) (first | trivial)
    (first
      | (go_at_call 115; (with_reducible refine (HOK.out _ (HR3.out.below (Below.refl _ _).drew)).mono ?_); rintro e w' ⟨rfl, rfl⟩)
      | (go_at_call 114; (with_reducible refine (HR2.out _ (HR3.out.below (Below.refl _ _).drew)).mono ?_); rintro e w' ⟨rfl, rfl⟩))
  all_goals
    have bk4 := block_set2 (block_set1 (w := w3) HBK.out (.int .i64 (z : Int))) (.slice A' k c')
    obtain ⟨⟨y0, y1⟩, _⟩ := block_cell2 bk4
    have hB4 : Below w.heap.size w ((w3.setCell ⟨w.heap.size, 0, none⟩ (.int .i64 (z : Int))).setCell ⟨w.heap.size, 1, none⟩ (.slice A' k c')) := (HB3.out.setCell (p := ⟨w.heap.size, 0, none⟩) (Nat.le_refl _) _).setCell (p := ⟨w.heap.size, 1, none⟩) (Nat.le_refl _) _
    have HB4 := Lib.hid hB4
    clear hB4 bk4
    go_wp2
    refine bodyPost_ret (v := .tuple #[.agg #[.int .i64 (z : Int), .slice A' k c'], .bool ok]) (by simp [results, Tryz.results80, go_sem, loadCells, y0, y1]) rfl ⟨HB4.out.drew, z, A', k, c', ok, rfl, hz, ?_⟩
    rcases HOC.out with ⟨h1, h2⟩ | ⟨h1, h2⟩
    · exact .inl ⟨h1, r, HOK1.out h2, HBA.out.kept HB4.out.drew, HBK2.out⟩
    · exact .inr ⟨h1, (HOK2.out h2).1⟩
end Go.Proofs.YtjijgoflbjbnfaaGreat.Jo

namespace Go.Proofs.YtjijgoflbjbnfaaGreat.Jo
open Go.RowKit Go.Shelf Fr
attribute [local go_sem] Oper.semAt_some
variable {β : Type}

/-- What is given: where the frame ends, the record's number, its bytes. -/
abbrev Rc := Nat × Nat × List Int
/-- What counts of frames, where the next number is nx. -/
def cntF : Nat → List Fr → List Rc
  | _, [] => []
  | nx, x :: r => match dec x.2 with
    | none => []
    | some y => if 0 < x.1 ∧ y.1 ≠ nx then [] else (x.1 + x.2.length + 8, y) :: cntF (y.1 + 1) r
def cnt (L : List Int) : List Rc := cntF 0 (allF L)
theorem cntF_none {nx : Nat} {x : Fr} {r : List Fr} (h : dec x.2 = none) : cntF nx (x :: r) = [] := by rw [cntF, h]
theorem cntF_bad {nx : Nat} {x : Fr} {r : List Fr} {y : Nat × List Int} (h : dec x.2 = some y) (h2 : 0 < x.1 ∧ y.1 ≠ nx) : cntF nx (x :: r) = [] := by rw [cntF, h]; exact if_pos h2
theorem cntF_good {nx : Nat} {x : Fr} {r : List Fr} {y : Nat × List Int} (h : dec x.2 = some y) (h2 : ¬ (0 < x.1 ∧ y.1 ≠ nx)) : cntF nx (x :: r) = (x.1 + x.2.length + 8, y) :: cntF (y.1 + 1) r := by rw [cntF, h]; exact if_neg h2
theorem dec_le {l : List Int} {y : Nat × List Int} (h : dec l = some y) : y.1 ≤ 4611686018427387903 := by
  unfold dec at h
  split at h
  · rename_i hc; rw [← Option.some.inj h]; exact hc.2
  · cases h
abbrev ckey (x : Rc) : Int := (x.1 : Int)
abbrev cR (Kx : Nat → Prop) (x : Rc) (v : Value) (W : World) : Prop := ∃ A k c, v = .agg #[.int .i64 (x.2.1 : Int), .slice A k c] ∧ BAt W (.slice A k c) x.2.2 ∧ BK Kx (.slice A k c) x.2.2
theorem cR_put {Kx : Nat → Prop} {x : Rc} {v : Value} {W : World} {k : Nat} {r : Loop} {o : Obj} (h : cR Kx x v W) (hk : W.heap[k]? = some (.loop r)) : cR Kx x v (W.putObj k o) := by
  obtain ⟨A, q, c, h1, h2, h3⟩ := h
  exact ⟨A, q, c, h1, BAt.put h2 hk, h3⟩
theorem counting_any (w : World) (A : Option Addr) (m c : Nat) :
    Calls Tryz.prog 50 #[.slice A m c] w fun e w' => e = .returned (.func (.func 78) #[] #[.pointer (some ⟨w.heap.size, 0, none⟩)]) ∧ w' = w.alloc (.cells #[.slice A m c] 32) := by
  go_enter Tryz.func50, Tryz.ntmps50
  go_wp2
  go_ret
  exact ⟨rfl, rfl⟩
theorem uns_none {w : World} {A : Option Addr} {m c : Nat} {l : List Int} (h : BAt w (.slice A m c) l) (hb : bok l) (hm : m ≤ 1000000) (hd : dec l = none) :
    Calls Tryz.prog 80 #[.slice A m c] w fun e w' => ∃ z A' k c', e = .returned (.tuple #[.agg #[.int .i64 z, .slice A' k c'], .bool false]) ∧ Below w.heap.size w w' := by
  refine (unseal_any w A m c l h hb hm).mono ?_
  rintro e w' ⟨hb, z, A', k, c', ok, rfl, _, (⟨_, r, h2, _, _⟩ | ⟨rfl, _⟩)⟩
  · rw [hd] at h2; cases h2
  · exact ⟨_, A', k, c', rfl, hb⟩
theorem uns_some {w : World} {A : Option Addr} {m c n : Nat} {l r : List Int} (h : BAt w (.slice A m c) l) (hb : bok l) (hm : m ≤ 1000000) (hd : dec l = some (n, r)) :
    Calls Tryz.prog 80 #[.slice A m c] w fun e w' => ∃ A' k c', e = .returned (.tuple #[.agg #[.int .i64 (n : Int), .slice A' k c'], .bool true]) ∧ (BAt w' (.slice A' k c') r ∧ ∀ K, BK K (.slice A m c) l → BK K (.slice A' k c') r) ∧ Below w.heap.size w w' := by
  refine (unseal_any w A m c l h hb hm).mono ?_
  rintro e w' ⟨hb, z, A', k, c', ok, rfl, _, (⟨rfl, r2, h2, h3, h4⟩ | ⟨_, h2⟩)⟩
  · rw [hd] at h2
    cases h2
    exact ⟨A', k, c', rfl, ⟨h3, h4⟩, hb⟩
  · rw [hd] at h2; cases h2
end Go.Proofs.YtjijgoflbjbnfaaGreat.Jo
