/-
  OctetLong answers true for every two numbers. Conditions: the numbers' own ranges.
-/
import Derived.Test.YtmicmldhjmadcaaOKnown
namespace Go.Proofs.Ytmicmldhjmadcaa.Oc
open Go.RowKit

theorem grp_three {q : Nat} (h1 : 16384 ≤ q) (h2 : q < 2097152) : (grp q).length = 3 := by
  unfold grp
  rw [grpF_more (by omega), grpF_more (by omega), grpF_one (by omega)]
  rfl
def zer (q : Nat) : List Int := List.replicate q 0
theorem zer_bok (q : Nat) : bok (zer q) := fun x hx => by
  have := List.eq_of_mem_replicate hx
  omega
theorem zer_len (q : Nat) : (zer q).length = q := by simp [zer]
set_option maxRecDepth 100000 in
theorem rdone_yes (w : World) (b : Nat) (er : Int) (he : ¬ er = 0) (h : w.cell? ⟨b, 0, none⟩ = some (.int .i64 er)) : Calls Try.prog 18 #[.pointer (some ⟨b, 0, none⟩)] w fun e w' => e = .returned (.int .i64 er) ∧ w = w' := by
  have HF := Lib.hid (failed_yes w b er he h)
  go_enter Try.func18, Try.ntmps18
  go_wp2_with (go_at_call 45; refine HF.out.mono ?_; rintro e w1 ⟨rfl, rfl⟩)
  go_ret
  exact ⟨rfl, rfl⟩
theorem made_zer (q : Nat) (h : q ≤ 2000000) (W : World) : (Instr.makeSlice 27 (.int .i64 (q : Int)) (.int .i64 (q : Int))).run Try.prog W = .ok (.slice (some ⟨W.heap.size, 0, none⟩) q q) (W.alloc (.cells (bv (zer q)).toArray 5)) := by
  obtain ⟨i0, hi0, hz0, hz1, hz2⟩ := info_parts u8Inf
  have h2 := run_make (P := Try.prog) W 27 5 i0 _ Try.underlying27 hi0 hz0 .i64 .i64 (q : Int) (q : Int) (by omega) (Int.le_refl _) (by rw [hz2]; omega) (by omega)
  rw [Int.toNat_natCast, hz1, Nat.mul_one] at h2
  rw [h2]
  have e : madeCells (Value.int .u8 0).cells q = (bv (zer q)).toArray := by
    apply Array.ext'
    simp only [madeCells, Array.toList_map, Array.toList_range, bv, zer]
    apply List.ext_getElem
    · simp
    · intro i h1 h2
      simp [Value.cells, Nat.mod_one]
  rw [e]
theorem zer_at (w : World) (q : Nat) : BAt (w.alloc (.cells (bv (zer q)).toArray 5)) (.slice (some ⟨w.heap.size, 0, none⟩) q q) (zer q) := by
  refine ⟨_, q, by rw [zer_len], by rw [zer_len]; omega, fun _ => ⟨w.heap.size, 0, rfl, by simp, fun i hi => ?_⟩⟩
  have hb := block_new w (.cells (bv (zer q)).toArray 5)
  simp only [World.cell?, Nat.zero_add]
  rw [hb]
  have := bv_getD hi
  simpa using this

theorem wdone_at (w : World) (b : Nat) (er : Int) (l : List Int) (v : Value) (N : Nat) (hN : l.length = N) (h : WrR w b er l v) :
    Calls Try.prog 9 #[.pointer (some ⟨b, 0, none⟩)] w fun e w' => ∃ A cap, e = .returned (.tuple #[.slice A N cap, .int .i64 er]) ∧ BAt w' (.slice A N cap) l ∧ Below w.heap.size w w' := by
  subst hN
  exact (wdone_any w b er l v h).mono fun e w' ⟨A, cap, h1, h2, h3⟩ => ⟨A, cap, h1, BAt.of_own h2, h3⟩
/-- A reader's cell is not the writer's. -/
theorem WFr.cell {b br : Nat} {v v' : Value} {w w' : World} {er : Int} {l : List Int} {u : Value} (h : WFr b v v' w w') (hr : RdR w br er l u) (h1 : br ≠ b) (h2 : v.ownBlock ≠ some br) : w'.cell? ⟨br, 0, none⟩ = some (.int .i64 er) :=
  (block_cell2 (h.at hr.1 h1 h2)).1.1
set_option maxRecDepth 100000 in
set_option maxHeartbeats 8000000 in
theorem law_long_ok0 (n en : Int) (k : Nat) (hk : k ≤ 6) (he : en = 0) (hn : (IntKind.u64.wrap n).tmod 12 = (k : Int)) (w : World) :
    Calls Try.prog 5 #[.int .i64 n, .int .i64 en] w fun e w' => e = .returned (.bool true) ∧ Below w.heap.size w w' := by
  subst he
  obtain ⟨N, hN⟩ : ∃ N, N = 1048570 + k := ⟨_, rfl⟩
  obtain ⟨q, hq⟩ : ∃ q, q = N - 3 := ⟨_, rfl⟩
  obtain ⟨s, hs⟩ : ∃ s, s = strOf (zer q) := ⟨_, rfl⟩
  have e1 : (1048570 : Int) + (k : Int) = (N : Int) := by omega
  have e2 : (N : Int) - 3 = (q : Int) := by omega
  have hss : s.size = q := by rw [hs, strOf_len, zer_len]
  have hg3 := grp_three (q := q) (by omega) (by omega)
  obtain ⟨L, hL⟩ : ∃ L, L = grp q ++ sb s := ⟨_, rfl⟩
  have hLN : L.length = N := by rw [hL, List.length_append, hg3, sb_len, hss]; omega
  have HLN : Hid (L.length = N) := hLN
  have HLB : Hid (bok L) := (by rw [hL]; exact bok_app (grp_bok (by omega)) (sb_bok s))
  have HLL : Hid (L.length ≤ 2000000) := by show L.length ≤ 2000000; omega
  have hmk := made_zer q (by omega)
  have hcv : (convert 27 9 (.slice (some ⟨w.heap.size + 1, 0, none⟩) q q)).run Try.prog ((w.alloc wrO).alloc (.cells (bv (zer q)).toArray 5)) = .ok (.string s) ((w.alloc wrO).alloc (.cells (bv (zer q)).toArray 5)) := by
    have h1 := conv_any (zer_at (w.alloc wrO) q) (zer_bok q)
    rw [← hs] at h1
    simpa using h1
  have hB2 : Below w.heap.size w (((w.alloc wrO).alloc (.cells (bv (zer q)).toArray 5)).alloc (.cells #[.string s] 9)) := (((Below.refl _ _).alloc (Nat.le_refl _) _).alloc (by simp) _).alloc (by simp; omega) _
  have hW2 : WrR (((w.alloc wrO).alloc (.cells (bv (zer q)).toArray 5)).alloc (.cells #[.string s] 9)) w.heap.size 0 [] (.slice none 0 0) := ((wr_new w).below ((Below.refl _ _).alloc (Nat.le_refl _) _)).below ((Below.refl _ _).alloc (Nat.le_refl _) _)
  have hT2 : (((w.alloc wrO).alloc (.cells (bv (zer q)).toArray 5)).alloc (.cells #[.string s] 9)).heap[w.heap.size + 1 + 1]? = some (.cells #[.string s] 9 (0, 0)) := by
    have := block_new ((w.alloc wrO).alloc (.cells (bv (zer q)).toArray 5)) (.cells #[.string s] 9)
    simpa using this
  have HT : Hid (Calls Try.prog 23 #[.pointer (some ⟨w.heap.size, 0, none⟩), .slice (some ⟨w.heap.size + 1 + 1, 0, none⟩) 1 1] (((w.alloc wrO).alloc (.cells (bv (zer q)).toArray 5)).alloc (.cells #[.string s] 9)) fun e w' => e = .returned (.pointer (some ⟨w.heap.size, 0, none⟩)) ∧ ∃ v', WrR w' w.heap.size 0 L v' ∧ Below w.heap.size (((w.alloc wrO).alloc (.cells (bv (zer q)).toArray 5)).alloc (.cells #[.string s] 9)) w') :=
    (text_ok _ w.heap.size (w.heap.size + 1 + 1) s [] _ hW2 hT2 (by rw [hss, hg3]; show 0 + 3 + q ≤ _; omega)).mono fun e w' h => ⟨h.1, by have := h.2.to hW2 (Nat.le_refl _); rw [hss] at this; rw [hL]; exact this⟩
  have HRD : Hid (∀ W br u, RdR W br 0 L u → Calls Try.prog 18 #[.pointer (some ⟨br, 0, none⟩)] W fun e w' => e = .returned (.int .i64 3) ∧ W = w') := fun W br u h => by have h1 := rdone_any W br 0 L u h; rw [show doneE 0 L = 3 by (unfold doneE; rw [if_pos rfl, if_neg (fun hh => by rw [hh] at hLN; simp at hLN; omega)])] at h1; exact h1
  have FNE : Hid (¬ (11 : Int) = 0) := (show ¬ (11 : Int) = 0 by decide)
  have B2 := Lib.hid hB2
  have t1 : ¬ (1048576 : Int) < (N : Int) := by omega
  have t2 : (0 : Int) ≤ (N : Int) := by omega
  have t3 : (N : Int) ≤ 2000000 := by omega
  have t4 : (0 : Int) ≤ (q : Int) := by omega
  have t5 : (q : Int) ≤ 2000000 := by omega
  have t6 : (k : Int) ≤ 11 := by omega
  have t7 : (0 : Int) ≤ (k : Int) := by omega
  clear hN hq hs hss hg3 hL hLN hB2 hW2 hT2 hk
  unfold wrO at *
  go_enter Try.func5, Try.ntmps5
  go_wp2_with (first
    | (go_at_call 18; (with_reducible refine (rdone_yes w11 br 11 FNE.out HC11.out).mono ?_); rintro e9 w12 ⟨rfl, rfl⟩)
    | (go_at_call 10; refine (known_any w10).mono ?_; rintro e8 w11 ⟨rfl, b11⟩
       have B11 := Lib.hid (B10.out.trans (b11.mono B10.out.size))
       have HC11 := Lib.hid (((b11.cell (p := ⟨br, 0, none⟩) HBL.out).trans HC10.out))
       clear b11)
    | (go_at_call 9; (with_reducible refine (wdone_at w9 w.heap.size 1 [] v9 0 rfl HV9.out).mono ?_); rintro e7 w10 ⟨A10, c10, rfl, _, b10⟩
       have B10 := Lib.hid (B9.out.trans (b10.mono B9.out.size))
       have HC10 : Hid (w10.cell? ⟨br, 0, none⟩ = some (.int .i64 11)) := (b10.cell (p := ⟨br, 0, none⟩) (World.block_lt_of_cell? _ _ HC9.out)).trans HC9.out
       have HBL : Hid (br < w10.heap.size) := World.block_lt_of_cell? _ _ HC10.out
       clear b10)
    | (go_at_call 20; refine (count_neg w8 w.heap.size 0 (-1) L v3 (HV3.out.below (B34.out.trans (K8.out.mono B34.out.size))) (by decide)).mono ?_; rintro e6 w9 ⟨rfl, v9, h9, f9⟩
       have HV9 : Hid (WrR w9 w.heap.size 1 [] v9) := h9
       have HC9 := Lib.hid (f9.cell HR8.out (by have := HLE.out; have := HV3.out.lt; have := B34.out.size; omega) (fun ee => by have := HLE.out; have := (HV3.out.2.1.lt br ee).2; have := B34.out.size; omega))
       have B9 := Lib.hid (B8.out.trans (f9.below (HV3.out.below (B34.out.trans (K8.out.mono B34.out.size))) (Nat.le_refl _)))
       clear h9 f9)
    | (go_at_call 24; (with_reducible refine (rfail_any w7 br 11 14 L u7 HR7.out).mono ?_); rintro e5 w8 ⟨rfl, u8, h8, g8⟩
       rw [errB_yes FNE.out] at h8
       have HR8 := Lib.hid h8
       have K8 := Lib.hid (K7.out.trans (below_of_grown g8 HLE.out K7.out.size))
       have B8 := Lib.hid (B4.out.trans (K8.out.mono B4.out.size))
       clear h8 g8)
    | (go_at_call 24; (with_reducible refine (rfail_any w6 br 0 11 L u6 HR6.out).mono ?_); rintro e5 w7 ⟨rfl, u7, h7, g7⟩
       rw [errB_no] at h7
       have HR7 := Lib.hid h7
       have K7 := Lib.hid (K6.out.trans (below_of_grown g7 HLE.out K6.out.size))
       clear h7 g7)
    | (go_at_call 18; refine (HRD.out w6 br u6 HR6.out).mono ?_; rintro e4 w6' ⟨rfl, rfl⟩)
    | (go_at_call 24; (with_reducible refine (rfail_any w5 br 0 0 L u5 HR5.out).mono ?_); rintro e5 w6 ⟨rfl, u6, h6, g6⟩
       rw [errB_no] at h6
       have HR6 := Lib.hid h6
       have K6 := Lib.hid (K5.out.trans (below_of_grown g6 HLE.out K5.out.size))
       clear h6 g6)
    | (go_at_call 12; refine (read_any w4 _ L HBA.out HLB.out HLL.out).mono ?_; rintro e3 w5 ⟨br, u5, rfl, hle, h5, b5⟩
       have HR5 := Lib.hid h5
       have HLE := Lib.hid hle
       have K5 := Lib.hid b5
       clear hle h5 b5)
    | (go_at_call 9; (with_reducible refine (wdone_at w3 w.heap.size 0 L v3 N HLN.out HV3.out).mono ?_); rintro e2 w4 ⟨A4, c4, rfl, hba, b4⟩
       have HBA := Lib.hid hba
       have B34 := Lib.hid b4
       have B4 := Lib.hid (B3.out.trans (b4.mono B3.out.size))
       clear hba b4)
    | (go_at_call 23; refine HT.out.mono ?_; rintro e1 w3 ⟨rfl, v3, h3, b3⟩
       have HV3 := Lib.hid h3
       have B3 := Lib.hid (B2.out.trans b3)
       clear h3 b3))
  go_ret
  exact ⟨rfl, B11.out⟩
set_option maxRecDepth 100000 in
set_option maxHeartbeats 8000000 in
theorem law_long_ok1 (n en : Int) (k : Nat) (hk : k ≤ 6) (he : ¬ en = 0) (hn : (IntKind.u64.wrap n).tmod 12 = (k : Int)) (w : World) :
    Calls Try.prog 5 #[.int .i64 n, .int .i64 en] w fun e w' => e = .returned (.bool true) ∧ Below w.heap.size w w' := by
  obtain ⟨N, hN⟩ : ∃ N, N = 1048570 + k := ⟨_, rfl⟩
  obtain ⟨q, hq⟩ : ∃ q, q = N - 3 := ⟨_, rfl⟩
  obtain ⟨s, hs⟩ : ∃ s, s = strOf (zer q) := ⟨_, rfl⟩
  have e1 : (1048570 : Int) + (k : Int) = (N : Int) := by omega
  have e2 : (N : Int) - 3 = (q : Int) := by omega
  have hss : s.size = q := by rw [hs, strOf_len, zer_len]
  have hg3 := grp_three (q := q) (by omega) (by omega)
  obtain ⟨L, hL⟩ : ∃ L, L = grp q ++ sb s := ⟨_, rfl⟩
  have hLN : L.length = N := by rw [hL, List.length_append, hg3, sb_len, hss]; omega
  have HLN : Hid (L.length = N) := hLN
  have HLB : Hid (bok L) := (by rw [hL]; exact bok_app (grp_bok (by omega)) (sb_bok s))
  have HLL : Hid (L.length ≤ 2000000) := by show L.length ≤ 2000000; omega
  have hmk := made_zer q (by omega)
  have hcv : (convert 27 9 (.slice (some ⟨w.heap.size + 1, 0, none⟩) q q)).run Try.prog ((w.alloc wrO).alloc (.cells (bv (zer q)).toArray 5)) = .ok (.string s) ((w.alloc wrO).alloc (.cells (bv (zer q)).toArray 5)) := by
    have h1 := conv_any (zer_at (w.alloc wrO) q) (zer_bok q)
    rw [← hs] at h1
    simpa using h1
  have hB2 : Below w.heap.size w (((w.alloc wrO).alloc (.cells (bv (zer q)).toArray 5)).alloc (.cells #[.string s] 9)) := (((Below.refl _ _).alloc (Nat.le_refl _) _).alloc (by simp) _).alloc (by simp; omega) _
  have hW2 : WrR (((w.alloc wrO).alloc (.cells (bv (zer q)).toArray 5)).alloc (.cells #[.string s] 9)) w.heap.size 0 [] (.slice none 0 0) := ((wr_new w).below ((Below.refl _ _).alloc (Nat.le_refl _) _)).below ((Below.refl _ _).alloc (Nat.le_refl _) _)
  have hT2 : (((w.alloc wrO).alloc (.cells (bv (zer q)).toArray 5)).alloc (.cells #[.string s] 9)).heap[w.heap.size + 1 + 1]? = some (.cells #[.string s] 9 (0, 0)) := by
    have := block_new ((w.alloc wrO).alloc (.cells (bv (zer q)).toArray 5)) (.cells #[.string s] 9)
    simpa using this
  have HT : Hid (Calls Try.prog 23 #[.pointer (some ⟨w.heap.size, 0, none⟩), .slice (some ⟨w.heap.size + 1 + 1, 0, none⟩) 1 1] (((w.alloc wrO).alloc (.cells (bv (zer q)).toArray 5)).alloc (.cells #[.string s] 9)) fun e w' => e = .returned (.pointer (some ⟨w.heap.size, 0, none⟩)) ∧ ∃ v', WrR w' w.heap.size 0 L v' ∧ Below w.heap.size (((w.alloc wrO).alloc (.cells (bv (zer q)).toArray 5)).alloc (.cells #[.string s] 9)) w') :=
    (text_ok _ w.heap.size (w.heap.size + 1 + 1) s [] _ hW2 hT2 (by rw [hss, hg3]; show 0 + 3 + q ≤ _; omega)).mono fun e w' h => ⟨h.1, by have := h.2.to hW2 (Nat.le_refl _); rw [hss] at this; rw [hL]; exact this⟩
  have HRD : Hid (∀ W br u, RdR W br en L u → Calls Try.prog 18 #[.pointer (some ⟨br, 0, none⟩)] W fun e w' => e = .returned (.int .i64 en) ∧ W = w') := fun W br u h => by have h1 := rdone_any W br en L u h; rw [doneE_yes he] at h1; exact h1
  have FNE : Hid (¬ (en : Int) = 0) := he
  have B2 := Lib.hid hB2
  have t1 : ¬ (1048576 : Int) < (N : Int) := by omega
  have t2 : (0 : Int) ≤ (N : Int) := by omega
  have t3 : (N : Int) ≤ 2000000 := by omega
  have t4 : (0 : Int) ≤ (q : Int) := by omega
  have t5 : (q : Int) ≤ 2000000 := by omega
  have t6 : (k : Int) ≤ 11 := by omega
  have t7 : (0 : Int) ≤ (k : Int) := by omega
  clear hN hq hs hss hg3 hL hLN hB2 hW2 hT2 hk
  unfold wrO at *
  go_enter Try.func5, Try.ntmps5
  go_wp2_with (first
    | (go_at_call 18; (with_reducible refine (rdone_yes w11 br en FNE.out HC11.out).mono ?_); rintro e9 w12 ⟨rfl, rfl⟩)
    | (go_at_call 10; refine (known_any w10).mono ?_; rintro e8 w11 ⟨rfl, b11⟩
       have B11 := Lib.hid (B10.out.trans (b11.mono B10.out.size))
       have HC11 := Lib.hid (((b11.cell (p := ⟨br, 0, none⟩) HBL.out).trans HC10.out))
       clear b11)
    | (go_at_call 9; (with_reducible refine (wdone_at w9 w.heap.size 1 [] v9 0 rfl HV9.out).mono ?_); rintro e7 w10 ⟨A10, c10, rfl, _, b10⟩
       have B10 := Lib.hid (B9.out.trans (b10.mono B9.out.size))
       have HC10 : Hid (w10.cell? ⟨br, 0, none⟩ = some (.int .i64 en)) := (b10.cell (p := ⟨br, 0, none⟩) (World.block_lt_of_cell? _ _ HC9.out)).trans HC9.out
       have HBL : Hid (br < w10.heap.size) := World.block_lt_of_cell? _ _ HC10.out
       clear b10)
    | (go_at_call 20; refine (count_neg w8 w.heap.size 0 (-1) L v3 (HV3.out.below (B34.out.trans (K8.out.mono B34.out.size))) (by decide)).mono ?_; rintro e6 w9 ⟨rfl, v9, h9, f9⟩
       have HV9 : Hid (WrR w9 w.heap.size 1 [] v9) := h9
       have HC9 := Lib.hid (f9.cell HR8.out (by have := HLE.out; have := HV3.out.lt; have := B34.out.size; omega) (fun ee => by have := HLE.out; have := (HV3.out.2.1.lt br ee).2; have := B34.out.size; omega))
       have B9 := Lib.hid (B8.out.trans (f9.below (HV3.out.below (B34.out.trans (K8.out.mono B34.out.size))) (Nat.le_refl _)))
       clear h9 f9)
    | (go_at_call 24; (with_reducible refine (rfail_any w7 br en 14 L u7 HR7.out).mono ?_); rintro e5 w8 ⟨rfl, u8, h8, g8⟩
       rw [errB_yes FNE.out] at h8
       have HR8 := Lib.hid h8
       have K8 := Lib.hid (K7.out.trans (below_of_grown g8 HLE.out K7.out.size))
       have B8 := Lib.hid (B4.out.trans (K8.out.mono B4.out.size))
       clear h8 g8)
    | (go_at_call 24; (with_reducible refine (rfail_any w6 br en 11 L u6 HR6.out).mono ?_); rintro e5 w7 ⟨rfl, u7, h7, g7⟩
       rw [errB_yes FNE.out] at h7
       have HR7 := Lib.hid h7
       have K7 := Lib.hid (K6.out.trans (below_of_grown g7 HLE.out K6.out.size))
       clear h7 g7)
    | (go_at_call 18; refine (HRD.out w6 br u6 HR6.out).mono ?_; rintro e4 w6' ⟨rfl, rfl⟩)
    | (go_at_call 24; (with_reducible refine (rfail_any w5 br 0 en L u5 HR5.out).mono ?_); rintro e5 w6 ⟨rfl, u6, h6, g6⟩
       rw [errB_no] at h6
       have HR6 := Lib.hid h6
       have K6 := Lib.hid (K5.out.trans (below_of_grown g6 HLE.out K5.out.size))
       clear h6 g6)
    | (go_at_call 12; refine (read_any w4 _ L HBA.out HLB.out HLL.out).mono ?_; rintro e3 w5 ⟨br, u5, rfl, hle, h5, b5⟩
       have HR5 := Lib.hid h5
       have HLE := Lib.hid hle
       have K5 := Lib.hid b5
       clear hle h5 b5)
    | (go_at_call 9; (with_reducible refine (wdone_at w3 w.heap.size 0 L v3 N HLN.out HV3.out).mono ?_); rintro e2 w4 ⟨A4, c4, rfl, hba, b4⟩
       have HBA := Lib.hid hba
       have B34 := Lib.hid b4
       have B4 := Lib.hid (B3.out.trans (b4.mono B3.out.size))
       clear hba b4)
    | (go_at_call 23; refine HT.out.mono ?_; rintro e1 w3 ⟨rfl, v3, h3, b3⟩
       have HV3 := Lib.hid h3
       have B3 := Lib.hid (B2.out.trans b3)
       clear h3 b3))
  go_ret
  exact ⟨rfl, B11.out⟩
set_option maxRecDepth 100000 in
set_option maxHeartbeats 8000000 in
theorem law_long_big0 (n en : Int) (k : Nat) (hk : 6 < k ∧ k ≤ 11) (he : en = 0) (hn : (IntKind.u64.wrap n).tmod 12 = (k : Int)) (w : World) :
    Calls Try.prog 5 #[.int .i64 n, .int .i64 en] w fun e w' => e = .returned (.bool true) ∧ Below w.heap.size w w' := by
  subst he
  obtain ⟨N, hN⟩ : ∃ N, N = 1048570 + k := ⟨_, rfl⟩
  obtain ⟨q, hq⟩ : ∃ q, q = N - 3 := ⟨_, rfl⟩
  obtain ⟨s, hs⟩ : ∃ s, s = strOf (zer q) := ⟨_, rfl⟩
  have e1 : (1048570 : Int) + (k : Int) = (N : Int) := by omega
  have e2 : (N : Int) - 3 = (q : Int) := by omega
  have hss : s.size = q := by rw [hs, strOf_len, zer_len]
  have hg3 := grp_three (q := q) (by omega) (by omega)
  obtain ⟨L, hL⟩ : ∃ L, L = grp q ++ sb s := ⟨_, rfl⟩
  have hLN : L.length = N := by rw [hL, List.length_append, hg3, sb_len, hss]; omega
  have HLN : Hid (([] : List Int).length = 0) := rfl
  have HLB : Hid (bok ([] : List Int)) := (fun x hx => absurd hx (List.not_mem_nil))
  have HLL : Hid (([] : List Int).length ≤ 2000000) := by show ([] : List Int).length ≤ 2000000; simp
  have hmk := made_zer q (by omega)
  have hcv : (convert 27 9 (.slice (some ⟨w.heap.size + 1, 0, none⟩) q q)).run Try.prog ((w.alloc wrO).alloc (.cells (bv (zer q)).toArray 5)) = .ok (.string s) ((w.alloc wrO).alloc (.cells (bv (zer q)).toArray 5)) := by
    have h1 := conv_any (zer_at (w.alloc wrO) q) (zer_bok q)
    rw [← hs] at h1
    simpa using h1
  have hB2 : Below w.heap.size w (((w.alloc wrO).alloc (.cells (bv (zer q)).toArray 5)).alloc (.cells #[.string s] 9)) := (((Below.refl _ _).alloc (Nat.le_refl _) _).alloc (by simp) _).alloc (by simp; omega) _
  have hW2 : WrR (((w.alloc wrO).alloc (.cells (bv (zer q)).toArray 5)).alloc (.cells #[.string s] 9)) w.heap.size 0 [] (.slice none 0 0) := ((wr_new w).below ((Below.refl _ _).alloc (Nat.le_refl _) _)).below ((Below.refl _ _).alloc (Nat.le_refl _) _)
  have hT2 : (((w.alloc wrO).alloc (.cells (bv (zer q)).toArray 5)).alloc (.cells #[.string s] 9)).heap[w.heap.size + 1 + 1]? = some (.cells #[.string s] 9 (0, 0)) := by
    have := block_new ((w.alloc wrO).alloc (.cells (bv (zer q)).toArray 5)) (.cells #[.string s] 9)
    simpa using this
  have HT : Hid (Calls Try.prog 23 #[.pointer (some ⟨w.heap.size, 0, none⟩), .slice (some ⟨w.heap.size + 1 + 1, 0, none⟩) 1 1] (((w.alloc wrO).alloc (.cells (bv (zer q)).toArray 5)).alloc (.cells #[.string s] 9)) fun e w' => e = .returned (.pointer (some ⟨w.heap.size, 0, none⟩)) ∧ ∃ v', WrR w' w.heap.size 2 [] v' ∧ Below w.heap.size (((w.alloc wrO).alloc (.cells (bv (zer q)).toArray 5)).alloc (.cells #[.string s] 9)) w') :=
    (text_big _ w.heap.size (w.heap.size + 1 + 1) s [] _ hW2 hT2 (by rw [hss, hg3]; decide) (by rw [hss, hg3]; show _ < 0 + 3 + q; omega) (by omega)).mono fun e w' h => ⟨h.1, h.2.to hW2 (Nat.le_refl _)⟩
  have HRD : Hid (∀ W br u, RdR W br 0 [] u → Calls Try.prog 18 #[.pointer (some ⟨br, 0, none⟩)] W fun e w' => e = .returned (.int .i64 0) ∧ W = w') := fun W br u h => rdone_any W br 0 [] u h
  have FNE : Hid (¬ (11 : Int) = 0) := (show ¬ (11 : Int) = 0 by decide)
  have B2 := Lib.hid hB2
  have t1 : (1048576 : Int) < (N : Int) := by omega
  have t2 : (0 : Int) ≤ (N : Int) := by omega
  have t3 : (N : Int) ≤ 2000000 := by omega
  have t4 : (0 : Int) ≤ (q : Int) := by omega
  have t5 : (q : Int) ≤ 2000000 := by omega
  have t6 : (k : Int) ≤ 11 := by omega
  have t7 : (0 : Int) ≤ (k : Int) := by omega
  clear hN hq hs hss hg3 hL hLN hB2 hW2 hT2 hk
  unfold wrO at *
  go_enter Try.func5, Try.ntmps5
  go_wp2_with (first
    | (go_at_call 10; refine (known_any w8).mono ?_; rintro e8 w11 ⟨rfl, b11⟩
       have B11 := Lib.hid (B8.out.trans (b11.mono B8.out.size))
       skip
       clear b11)
    | (go_at_call 24; (with_reducible refine (rfail_any w7 br 11 14 [] u7 HR7.out).mono ?_); rintro e5 w8 ⟨rfl, u8, h8, g8⟩
       rw [errB_yes FNE.out] at h8
       have HR8 := Lib.hid h8
       have K8 := Lib.hid (K7.out.trans (below_of_grown g8 HLE.out K7.out.size))
       have B8 := Lib.hid (B4.out.trans (K8.out.mono B4.out.size))
       clear h8 g8)
    | (go_at_call 24; (with_reducible refine (rfail_any w6 br 0 11 [] u6 HR6.out).mono ?_); rintro e5 w7 ⟨rfl, u7, h7, g7⟩
       rw [errB_no] at h7
       have HR7 := Lib.hid h7
       have K7 := Lib.hid (K6.out.trans (below_of_grown g7 HLE.out K6.out.size))
       clear h7 g7)
    | (go_at_call 18; refine (HRD.out w6 br u6 HR6.out).mono ?_; rintro e4 w6' ⟨rfl, rfl⟩)
    | (go_at_call 24; (with_reducible refine (rfail_any w5 br 0 0 [] u5 HR5.out).mono ?_); rintro e5 w6 ⟨rfl, u6, h6, g6⟩
       rw [errB_no] at h6
       have HR6 := Lib.hid h6
       have K6 := Lib.hid (K5.out.trans (below_of_grown g6 HLE.out K5.out.size))
       clear h6 g6)
    | (go_at_call 12; refine (read_any w4 _ [] HBA.out HLB.out HLL.out).mono ?_; rintro e3 w5 ⟨br, u5, rfl, hle, h5, b5⟩
       have HR5 := Lib.hid h5
       have HLE := Lib.hid hle
       have K5 := Lib.hid b5
       clear hle h5 b5)
    | (go_at_call 9; (with_reducible refine (wdone_at w3 w.heap.size 2 [] v3 0 HLN.out HV3.out).mono ?_); rintro e2 w4 ⟨A4, c4, rfl, hba, b4⟩
       have HBA := Lib.hid hba
       have B34 := Lib.hid b4
       have B4 := Lib.hid (B3.out.trans (b4.mono B3.out.size))
       clear hba b4)
    | (go_at_call 23; refine HT.out.mono ?_; rintro e1 w3 ⟨rfl, v3, h3, b3⟩
       have HV3 := Lib.hid h3
       have B3 := Lib.hid (B2.out.trans b3)
       clear h3 b3))
  go_ret
  exact ⟨rfl, B11.out⟩
set_option maxRecDepth 100000 in
set_option maxHeartbeats 8000000 in
theorem law_long_big1 (n en : Int) (k : Nat) (hk : 6 < k ∧ k ≤ 11) (he : ¬ en = 0) (hn : (IntKind.u64.wrap n).tmod 12 = (k : Int)) (w : World) :
    Calls Try.prog 5 #[.int .i64 n, .int .i64 en] w fun e w' => e = .returned (.bool true) ∧ Below w.heap.size w w' := by
  obtain ⟨N, hN⟩ : ∃ N, N = 1048570 + k := ⟨_, rfl⟩
  obtain ⟨q, hq⟩ : ∃ q, q = N - 3 := ⟨_, rfl⟩
  obtain ⟨s, hs⟩ : ∃ s, s = strOf (zer q) := ⟨_, rfl⟩
  have e1 : (1048570 : Int) + (k : Int) = (N : Int) := by omega
  have e2 : (N : Int) - 3 = (q : Int) := by omega
  have hss : s.size = q := by rw [hs, strOf_len, zer_len]
  have hg3 := grp_three (q := q) (by omega) (by omega)
  obtain ⟨L, hL⟩ : ∃ L, L = grp q ++ sb s := ⟨_, rfl⟩
  have hLN : L.length = N := by rw [hL, List.length_append, hg3, sb_len, hss]; omega
  have HLN : Hid (([] : List Int).length = 0) := rfl
  have HLB : Hid (bok ([] : List Int)) := (fun x hx => absurd hx (List.not_mem_nil))
  have HLL : Hid (([] : List Int).length ≤ 2000000) := by show ([] : List Int).length ≤ 2000000; simp
  have hmk := made_zer q (by omega)
  have hcv : (convert 27 9 (.slice (some ⟨w.heap.size + 1, 0, none⟩) q q)).run Try.prog ((w.alloc wrO).alloc (.cells (bv (zer q)).toArray 5)) = .ok (.string s) ((w.alloc wrO).alloc (.cells (bv (zer q)).toArray 5)) := by
    have h1 := conv_any (zer_at (w.alloc wrO) q) (zer_bok q)
    rw [← hs] at h1
    simpa using h1
  have hB2 : Below w.heap.size w (((w.alloc wrO).alloc (.cells (bv (zer q)).toArray 5)).alloc (.cells #[.string s] 9)) := (((Below.refl _ _).alloc (Nat.le_refl _) _).alloc (by simp) _).alloc (by simp; omega) _
  have hW2 : WrR (((w.alloc wrO).alloc (.cells (bv (zer q)).toArray 5)).alloc (.cells #[.string s] 9)) w.heap.size 0 [] (.slice none 0 0) := ((wr_new w).below ((Below.refl _ _).alloc (Nat.le_refl _) _)).below ((Below.refl _ _).alloc (Nat.le_refl _) _)
  have hT2 : (((w.alloc wrO).alloc (.cells (bv (zer q)).toArray 5)).alloc (.cells #[.string s] 9)).heap[w.heap.size + 1 + 1]? = some (.cells #[.string s] 9 (0, 0)) := by
    have := block_new ((w.alloc wrO).alloc (.cells (bv (zer q)).toArray 5)) (.cells #[.string s] 9)
    simpa using this
  have HT : Hid (Calls Try.prog 23 #[.pointer (some ⟨w.heap.size, 0, none⟩), .slice (some ⟨w.heap.size + 1 + 1, 0, none⟩) 1 1] (((w.alloc wrO).alloc (.cells (bv (zer q)).toArray 5)).alloc (.cells #[.string s] 9)) fun e w' => e = .returned (.pointer (some ⟨w.heap.size, 0, none⟩)) ∧ ∃ v', WrR w' w.heap.size 2 [] v' ∧ Below w.heap.size (((w.alloc wrO).alloc (.cells (bv (zer q)).toArray 5)).alloc (.cells #[.string s] 9)) w') :=
    (text_big _ w.heap.size (w.heap.size + 1 + 1) s [] _ hW2 hT2 (by rw [hss, hg3]; decide) (by rw [hss, hg3]; show _ < 0 + 3 + q; omega) (by omega)).mono fun e w' h => ⟨h.1, h.2.to hW2 (Nat.le_refl _)⟩
  have HRD : Hid (∀ W br u, RdR W br en [] u → Calls Try.prog 18 #[.pointer (some ⟨br, 0, none⟩)] W fun e w' => e = .returned (.int .i64 en) ∧ W = w') := fun W br u h => by have h1 := rdone_any W br en [] u h; rw [doneE_yes he] at h1; exact h1
  have FNE : Hid (¬ (en : Int) = 0) := he
  have B2 := Lib.hid hB2
  have t1 : (1048576 : Int) < (N : Int) := by omega
  have t2 : (0 : Int) ≤ (N : Int) := by omega
  have t3 : (N : Int) ≤ 2000000 := by omega
  have t4 : (0 : Int) ≤ (q : Int) := by omega
  have t5 : (q : Int) ≤ 2000000 := by omega
  have t6 : (k : Int) ≤ 11 := by omega
  have t7 : (0 : Int) ≤ (k : Int) := by omega
  clear hN hq hs hss hg3 hL hLN hB2 hW2 hT2 hk
  unfold wrO at *
  go_enter Try.func5, Try.ntmps5
  go_wp2_with (first
    | (go_at_call 10; refine (known_any w8).mono ?_; rintro e8 w11 ⟨rfl, b11⟩
       have B11 := Lib.hid (B8.out.trans (b11.mono B8.out.size))
       skip
       clear b11)
    | (go_at_call 24; (with_reducible refine (rfail_any w7 br en 14 [] u7 HR7.out).mono ?_); rintro e5 w8 ⟨rfl, u8, h8, g8⟩
       rw [errB_yes FNE.out] at h8
       have HR8 := Lib.hid h8
       have K8 := Lib.hid (K7.out.trans (below_of_grown g8 HLE.out K7.out.size))
       have B8 := Lib.hid (B4.out.trans (K8.out.mono B4.out.size))
       clear h8 g8)
    | (go_at_call 24; (with_reducible refine (rfail_any w6 br en 11 [] u6 HR6.out).mono ?_); rintro e5 w7 ⟨rfl, u7, h7, g7⟩
       rw [errB_yes FNE.out] at h7
       have HR7 := Lib.hid h7
       have K7 := Lib.hid (K6.out.trans (below_of_grown g7 HLE.out K6.out.size))
       clear h7 g7)
    | (go_at_call 18; refine (HRD.out w6 br u6 HR6.out).mono ?_; rintro e4 w6' ⟨rfl, rfl⟩)
    | (go_at_call 24; (with_reducible refine (rfail_any w5 br 0 en [] u5 HR5.out).mono ?_); rintro e5 w6 ⟨rfl, u6, h6, g6⟩
       rw [errB_no] at h6
       have HR6 := Lib.hid h6
       have K6 := Lib.hid (K5.out.trans (below_of_grown g6 HLE.out K5.out.size))
       clear h6 g6)
    | (go_at_call 12; refine (read_any w4 _ [] HBA.out HLB.out HLL.out).mono ?_; rintro e3 w5 ⟨br, u5, rfl, hle, h5, b5⟩
       have HR5 := Lib.hid h5
       have HLE := Lib.hid hle
       have K5 := Lib.hid b5
       clear hle h5 b5)
    | (go_at_call 9; (with_reducible refine (wdone_at w3 w.heap.size 2 [] v3 0 HLN.out HV3.out).mono ?_); rintro e2 w4 ⟨A4, c4, rfl, hba, b4⟩
       have HBA := Lib.hid hba
       have B34 := Lib.hid b4
       have B4 := Lib.hid (B3.out.trans (b4.mono B3.out.size))
       clear hba b4)
    | (go_at_call 23; refine HT.out.mono ?_; rintro e1 w3 ⟨rfl, v3, h3, b3⟩
       have HV3 := Lib.hid h3
       have B3 := Lib.hid (B2.out.trans b3)
       clear h3 b3))
  go_ret
  exact ⟨rfl, B11.out⟩
theorem law_long (n en : Int) (w : World) : Calls Try.prog 5 #[.int .i64 n, .int .i64 en] w fun e w' => e = .returned (.bool true) ∧ Below w.heap.size w w' := by
  have h0 : 0 ≤ IntKind.u64.wrap n := by rw [IntKind.wrap_u64]; omega
  obtain ⟨k, hk⟩ : ∃ k : Nat, (IntKind.u64.wrap n).tmod 12 = (k : Int) := ⟨((IntKind.u64.wrap n) % 12).toNat, by rw [Int.tmod_eq_emod_of_nonneg h0]; omega⟩
  have hk2 : k ≤ 11 := by
    rw [Int.tmod_eq_emod_of_nonneg h0] at hk
    omega
  by_cases h6 : k ≤ 6
  · by_cases he : en = 0
    · exact law_long_ok0 n en k h6 he hk w
    · exact law_long_ok1 n en k h6 he hk w
  · by_cases he : en = 0
    · exact law_long_big0 n en k ⟨by omega, hk2⟩ he hk w
    · exact law_long_big1 n en k ⟨by omega, hk2⟩ he hk w
end Go.Proofs.Ytmicmldhjmadcaa.Oc
