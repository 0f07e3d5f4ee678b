/-
  The contract of the reader's Text. Conditions: none.
-/
import Derived.Test.YtganokcmcdkdgaaGreatORCnt
import Derived.Laws.IdiomStrings
import Derived.Lib.BufferRead
namespace Go.Proofs.YtganokcmcdkdgaaGreat.Oc
open Go.RowKit

theorem conv_any {w : World} {u : Value} {l : List Int} (h : BAt w u l) (hb : bok l) : (convert 22 9 u).run Tryz.prog w = .ok (.string (strOf l)) w := by
  obtain ⟨A, cap, rfl, _, hc⟩ := h
  have hl : (u8s l).length = l.length := by simp [u8s]
  cases A with
  | none =>
    cases l with
    | nil => exact Lib.run_convert_nil_bytes w 22 9 5 cap Tryz.underlying22 Tryz.underlying5 Tryz.underlying9
    | cons x r => obtain ⟨g, o, h1, _⟩ := hc (by simp); cases h1
  | some a =>
    have := run_convert_bytes_back (P := Tryz.prog) w 22 9 5 a cap (u8s l) Tryz.underlying22 Tryz.underlying5 Tryz.underlying9 (fun j hj => by
      rw [hl] at hj
      obtain ⟨g, o, h1, _, h3⟩ := hc (by omega)
      cases h1
      rw [show (Addr.mk g o none).add j = ⟨g, o + j, none⟩ by unfold Addr.add; split <;> simp_all, h3 j hj]
      have hx : l.getD j 0 = l[j] := by simp [List.getD, List.getElem?_eq_getElem hj]
      have := hb l[j] (List.getElem_mem hj)
      rw [hx]
      simp [u8s]
      omega)
    rw [hl] at this
    exact this
theorem BAt.drew {w : World} {u : Value} {l : List Int} (h : BAt w u l) : BAt w.drew u l := h.kept (Below.refl _ _).drew
theorem RdR.drew {w : World} {b : Nat} {er : Int} {l : List Int} {v : Value} (h : RdR w b er l v) : RdR w.drew b er l v := h.below (Below.refl _ _).drew
theorem bok_take {l : List Int} (h : bok l) (n : Nat) : bok (l.take n) := fun x hx => h x (List.mem_of_mem_take hx)

set_option maxRecDepth 100000 in
set_option maxHeartbeats 2000000 in
theorem text1_any (w : World) (b B D n : Nat) (most er1 er2 : Int) (l1 l2 bs : List Int) (hB : w.heap[B]? = some (boxO b)) (hBb : B ≠ b) (hD : w.heap[D]? = some (intO most)) (hDb : D ≠ b) (hbs : bok bs)
    (hc : Calls Tryz.prog 52 #[.pointer (some ⟨b, 0, none⟩), .int .i64 most] w.drew fun e w' => e = .returned (.int .i64 (n : Int)) ∧ RdTo b w.drew er1 l1 w')
    (hk : ∀ W v, RdR W b er1 l1 v → Calls Tryz.prog 81 #[.pointer (some ⟨b, 0, none⟩), .int .i64 (n : Int)] W fun e w' => ∃ u, e = .returned u ∧ BAt w' u bs ∧ RdTo b W er2 l2 w') :
    Calls Tryz.prog 86 #[.pointer (some ⟨B, 0, none⟩), .pointer (some ⟨D, 0, none⟩)] w fun e w' => e = .returned (.string (strOf bs)) ∧ RdTo b w er2 l2 w' := by
  obtain ⟨c1, _⟩ := block_cell hB
  obtain ⟨c2, _⟩ := block_cell hD
  have HC := Lib.hid hc
  have HK := Lib.hid hk
  have HDD := Lib.hid hD
  have HBB := Lib.hid hB
  have HBS := Lib.hid hbs
  clear hB hD hc hk hbs
  go_enter Tryz.func86, Tryz.ntmps86
  go_wp2_with fail
  go_region_with (first
      | (go_at_call 81; refine (HK.out w1 v1 HV.out).mono ?_; rintro e w2 ⟨u, rfl, hba, hrd⟩
         obtain ⟨A3, m3, c3, rfl⟩ : ∃ A m c, u = Value.slice A m c := (by obtain ⟨A, c, h, _⟩ := hba; exact ⟨A, _, c, h⟩)
         have hcv := conv_any hba HBS.out
         have HRD := Lib.hid (RdTo.trans HG1.out hrd)
         clear hba)
      | (go_at_call 52; refine HC.out.mono ?_; rintro e w1 ⟨rfl, v1, h2, hg1⟩
         have HV := Lib.hid h2
         have d1 := (block_cell (block_grown (w := w.drew) HBB.out hg1 hBb)).1
         have d2 := (block_cell (block_grown (w := w.drew) HDD.out hg1 hDb)).1
         have HG1 := Lib.hid (grownBy_trans (grownBy_drew w (some b)) hg1)
         clear h2 hg1))
  all_goals
    go_wp2
    go_ret
    exact ⟨rfl, HRD.out⟩

/-! ### Text -/
set_option maxRecDepth 100000 in
theorem rtext_nil (w : World) (most : Int) : Calls Tryz.prog 54 #[.pointer none, .int .i64 most] w fun e w' => e = .returned (.string ByteArray.empty) ∧ Below w.heap.size w w' := by
  have hmf := mkfn
  have HB : Hid (Below w.heap.size w ((w.alloc (.cells #[.pointer none] 54)).alloc (.cells #[.int .i64 most] 3))) := ((Below.refl _ _).alloc (Nat.le_refl _) _).alloc (by simp) _
  go_enter Tryz.func54, Tryz.ntmps54
  go_wp2_with (go_at_call 85; refine (att_nilStr _ _).mono ?_; rintro e w1 ⟨rfl, rfl⟩)
  go_ret
  exact ⟨rfl, HB.out⟩
set_option maxRecDepth 100000 in
/-- What Text leaves, out of what its closure does. -/
theorem rtext_of (w : World) (b : Nat) (most : Int) (x : Value) (P : World → Prop) (ha : Calls Tryz.prog 85 #[.pointer (some ⟨b, 0, none⟩), .func (.func 86) #[] #[.pointer (some ⟨w.heap.size, 0, none⟩), .pointer (some ⟨w.heap.size + 1, 0, none⟩)]] ((w.alloc (boxO b)).alloc (intO most)) fun e w' => e = .returned x ∧ P w') :
    Calls Tryz.prog 54 #[.pointer (some ⟨b, 0, none⟩), .int .i64 most] w fun e w' => e = .returned x ∧ P w' := by
  have hmf := mkfn
  have HA := Lib.hid ha
  clear ha
  unfold boxO intO at *
  go_enter Tryz.func54, Tryz.ntmps54
  go_wp2_with (go_at_call 85; refine HA.out.mono ?_; rintro e w1 ⟨rfl, h1⟩)
  go_ret
  exact ⟨rfl, h1⟩
theorem rtext_ok (w : World) (b n : Nat) (most : Int) (l r : List Int) (v : Value) (h : RdR w b 0 l v) (hg : rg l = (0, n, r)) (hn : (n : Int) ≤ most) (hm : most < 9223372036854775808) (hr : n ≤ r.length) :
    Calls Tryz.prog 54 #[.pointer (some ⟨b, 0, none⟩), .int .i64 most] w fun e w' => e = .returned (.string (strOf (r.take n))) ∧ RdTo b w 0 (r.drop n) w' := by
  obtain ⟨hb0, hb1, hb2⟩ := two_boxes w b most
  have hl := h.lt
  have hrb : bok r := fun x hx => h.2.2.1 x (by rw [(rg_inv h.2.2.1 hg).2]; exact List.mem_append_right _ hx)
  refine rtext_of w b most _ _ ((att_okStr _ b l (r.drop n) v _ (h.below hb2) 86 _ (enters_of Tryz.func86 (by kernel_rfl) rfl)
    (text1_any _ b w.heap.size (w.heap.size + 1) n most 0 0 r (r.drop n) (r.take n) hb0 (by omega) hb1 (by omega) (bok_take hrb n) (rcount_ok _ b n most l r v (h.below hb2).drew hg hn hm) (fun W v1 h1 => cut_ok W b 0 r v1 n h1 hr))).mono fun e w' h1 => ⟨h1.1, RdTo.trans (grownBy_of_below _ hb2) h1.2⟩)
theorem rtext_short (w : World) (b n : Nat) (most : Int) (l r : List Int) (v : Value) (h : RdR w b 0 l v) (hg : rg l = (0, n, r)) (hn : (n : Int) ≤ most) (hm : most < 9223372036854775808) (hr : r.length < n) :
    Calls Tryz.prog 54 #[.pointer (some ⟨b, 0, none⟩), .int .i64 most] w fun e w' => e = .returned (.string ByteArray.empty) ∧ RdTo b w 12 l w' := by
  obtain ⟨hb0, hb1, hb2⟩ := two_boxes w b most
  have hl := h.lt
  refine rtext_of w b most _ _ ((att_errStr _ b 12 l v (h.below hb2) (by decide) 86 _ (enters_of Tryz.func86 (by kernel_rfl) rfl)
    ((text1_any _ b w.heap.size (w.heap.size + 1) n most 0 12 r r [] hb0 (by omega) hb1 (by omega) (fun x hx => absurd hx (List.not_mem_nil)) (rcount_ok _ b n most l r v (h.below hb2).drew hg hn hm)
      (fun W v1 h1 => (cut_end W b r v1 n h1 hr).mono fun e w' h2 => ⟨_, h2.1, ⟨none, 0, rfl, Nat.le_refl _, fun h => by simp at h⟩, h2.2⟩)).mono fun e w' h1 => ⟨_, _, h1.1, h1.2⟩)).mono fun e w' h1 => ⟨h1.1, RdTo.trans (grownBy_of_below _ hb2) h1.2⟩)
theorem rtext_err (w : World) (b : Nat) (most er : Int) (l : List Int) (v : Value) (h : RdR w b 0 l v) (he : ¬ er = 0)
    (hc : ∀ W, RdR W b 0 l v → Calls Tryz.prog 52 #[.pointer (some ⟨b, 0, none⟩), .int .i64 most] W fun e w' => e = .returned (.int .i64 0) ∧ RdTo b W er l w') :
    Calls Tryz.prog 54 #[.pointer (some ⟨b, 0, none⟩), .int .i64 most] w fun e w' => e = .returned (.string ByteArray.empty) ∧ RdTo b w er l w' := by
  obtain ⟨hb0, hb1, hb2⟩ := two_boxes w b most
  have hl := h.lt
  refine rtext_of w b most _ _ ((att_errStr _ b er l v (h.below hb2) he 86 _ (enters_of Tryz.func86 (by kernel_rfl) rfl)
    ((text1_any _ b w.heap.size (w.heap.size + 1) 0 most er er l l [] hb0 (by omega) hb1 (by omega) (fun x hx => absurd hx (List.not_mem_nil)) (hc _ (h.below hb2).drew)
      (fun W v1 h1 => cut_ok W b er l v1 0 h1 (Nat.zero_le _))).mono fun e w' h1 => ⟨_, _, h1.1, h1.2⟩)).mono fun e w' h1 => ⟨h1.1, RdTo.trans (grownBy_of_below _ hb2) h1.2⟩)
end Go.Proofs.YtganokcmcdkdgaaGreat.Oc
