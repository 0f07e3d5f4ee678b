/-
  What OctetOnce asks of each of the four kinds, out of what is read and written. Conditions: those in each lemma.
-/
import Derived.Test.YtmicmldhjmadcaaOLawLng
namespace Go.Proofs.Ytmicmldhjmadcaa.Oc
open Go.RowKit

theorem WrR.grown {w w' : World} {b c : Nat} {er : Int} {l : List Int} {v : Value} (h : WrR w b er l v) (hg : w.grownBy w' (some c)) (h1 : b ≠ c) (h2 : v.ownBlock ≠ some c) : WrR w' b er l v :=
  ⟨block_grown h.1 hg h1, ownsRow_kept h.2.1 (fun g hv => hg.block g (h.2.1.lt g hv).2 (fun e => h2 (by rw [hv]; exact e))), h.2.2⟩
theorem RdR.wfr {w w' : World} {b br : Nat} {er : Int} {l : List Int} {v v' u : Value} (h : RdR w br er l u) (hf : WFr b v v' w w') (hb : br < b) (hv : ∀ g, v.ownBlock = some g → br < g) : RdR w' br er l u :=
  h.upto (fun k hk => hf.block k (by have := h.lt; omega) (by omega) (fun e => by have := hv k e; omega))
set_option maxRecDepth 100000 in
set_option maxHeartbeats 4000000 in
theorem once_cnt_ok (w : World) (A : Option Addr) (len cap m : Nat) (l l' L : List Int) (kind er : Int) (n : Int) (hk : (IntKind.u64.wrap kind).tmod 4 = 0) (hmin : min (len : Int) 30 = (m : Int)) (hmc : m ≤ cap)
    (hA : BAt w (.slice A m cap) l) (hb : bok l) (hl : l.length ≤ 30)
    (hrd : ∀ W br v, RdR W br 0 l v → Calls Try.prog 13 #[.pointer (some ⟨br, 0, none⟩), .int .i64 9223372036854775807] W fun e w' => e = .returned (.int .i64 n) ∧ RdTo br W er l' w')
    (hwr : ∀ W b, WrR W b 0 [] (.slice none 0 0) → Calls Try.prog 20 #[.pointer (some ⟨b, 0, none⟩), .int .i64 n] W fun e w' => e = .returned (.pointer (some ⟨b, 0, none⟩)) ∧ WrTo b (.slice none 0 0) W 0 L w')
    (hfin : doneE er l' = 0 ∧ L = l) :
    Calls Try.prog 4 #[.slice A len cap, .int .i64 kind] w fun e w' => e = .returned (.bool true) ∧ Below w.heap.size w w' := by
  have hsl := slice_to A len cap m hmc
  have HA := Lib.hid hA
  have HBK : Hid (bok l ∧ l.length ≤ 2000000) := ⟨hb, by omega⟩
  have HRD := Lib.hid hrd
  have HWR := Lib.hid hwr
  have HFIN := Lib.hid hfin
  have hd := hfin.1
  clear hA hb hl hrd hwr hfin hmc
  go_enter Try.func4, Try.ntmps4
  go_wp2_with (first
    | (go_at_call 11; refine (same_eq _ _ _ l (HA.out.kept B6.out) (HC6.out) HBK.out.2).mono ?_; rintro e7 w7 ⟨rfl, b7⟩
       have B7 := Lib.hid (B6.out.trans (b7.mono B6.out.size))
       clear b7)
    | (go_at_call 18; refine (rdone_any w6 br er l' u3 HR6.out).mono ?_; rintro e6 w6' ⟨rfl, rfl⟩)
    | (go_at_call 10; refine (known_any w5).mono ?_; rintro e5 w6 ⟨rfl, b6⟩
       have HR6 := Lib.hid (HR5.out.below b6)
       have B6 := Lib.hid (B5.out.trans (b6.mono B5.out.size))
       have HC6 := Lib.hid (HC5.out.kept b6)
       clear b6)
    | (go_at_call 9; (with_reducible refine (wdone_at w4 w1.heap.size 0 L v4 L.length rfl HV4.out).mono ?_); rintro e4 w5 ⟨A5, c5, rfl, hba, b5⟩
       have HR5 := Lib.hid (HR4.out.below b5)
       have B5 := Lib.hid (B4.out.trans (b5.mono B4.out.size))
       have HC5 : Hid (BAt w5 (.slice A5 L.length c5) l) := (by show BAt _ _ _; rw [HFIN.out.2] at hba ⊢; exact hba)
       clear hba b5)
    | (go_at_call 20; refine (HWR.out w3 _ HV3.out).mono ?_; rintro e3 w4 ⟨rfl, v4, h4, f4⟩
       have HV4 := Lib.hid h4
       have HR4 := Lib.hid (HR3.out.wfr f4 HBR.out (fun g hg => by simp [Value.ownBlock] at hg))
       have B4 := Lib.hid (B3.out.trans (f4.below HV3.out (Nat.le_trans B1.out.size (Nat.le_refl _))))
       clear h4 f4)
    | (go_at_call 13; refine (HRD.out _ br u2 HR2.out).mono ?_; rintro e2 w3 ⟨rfl, u3, h3, g3⟩
       have HR3 := Lib.hid h3
       have HV3 := Lib.hid (HV2.out.grown g3 (by have := HBR.out; omega) (by simp [Value.ownBlock]))
       have B3 := Lib.hid (B2.out.trans (below_of_grown g3 HLE.out B2.out.size))
       clear h3 g3)
    | (go_at_call 12; refine (read_any w _ l HA.out HBK.out.1 HBK.out.2).mono ?_; rintro e1 w1 ⟨br, u2, rfl, hle, h1, b1⟩
       have HLE := Lib.hid hle
       have HR2 : Hid (RdR (w1.alloc wrO) br 0 l u2) := rd_box h1 _
       have HV2 := Lib.hid (wr_new w1)
       have HBR : Hid (br < w1.heap.size) := h1.lt
       have B1 := Lib.hid b1
       have B2 : Hid (Below w.heap.size w (w1.alloc wrO)) := b1.alloc b1.size _
       unfold wrO at HR2 HV2 B2
       clear hle h1 b1))
  go_ret
  exact ⟨rfl, B7.out⟩
set_option maxRecDepth 100000 in
set_option maxHeartbeats 4000000 in
theorem once_cnt_bad (w : World) (A : Option Addr) (len cap m : Nat) (l l' L : List Int) (kind er : Int) (n : Int) (hk : (IntKind.u64.wrap kind).tmod 4 = 0) (hmin : min (len : Int) 30 = (m : Int)) (hmc : m ≤ cap)
    (hA : BAt w (.slice A m cap) l) (hb : bok l) (hl : l.length ≤ 30)
    (hrd : ∀ W br v, RdR W br 0 l v → Calls Try.prog 13 #[.pointer (some ⟨br, 0, none⟩), .int .i64 9223372036854775807] W fun e w' => e = .returned (.int .i64 n) ∧ RdTo br W er l' w')
    (hwr : ∀ W b, WrR W b 0 [] (.slice none 0 0) → Calls Try.prog 20 #[.pointer (some ⟨b, 0, none⟩), .int .i64 n] W fun e w' => e = .returned (.pointer (some ⟨b, 0, none⟩)) ∧ WrTo b (.slice none 0 0) W 0 L w')
    (hfin : ¬ doneE er l' = 0) :
    Calls Try.prog 4 #[.slice A len cap, .int .i64 kind] w fun e w' => e = .returned (.bool true) ∧ Below w.heap.size w w' := by
  have hsl := slice_to A len cap m hmc
  have HA := Lib.hid hA
  have HBK : Hid (bok l ∧ l.length ≤ 2000000) := ⟨hb, by omega⟩
  have HRD := Lib.hid hrd
  have HWR := Lib.hid hwr
  have hd := hfin
  clear hA hb hl hrd hwr hfin hmc
  go_enter Try.func4, Try.ntmps4
  go_wp2_with (first
    | (go_at_call 18; refine (rdone_any w6 br er l' u3 HR6.out).mono ?_; rintro e6 w6' ⟨rfl, rfl⟩)
    | (go_at_call 10; refine (known_any w5).mono ?_; rintro e5 w6 ⟨rfl, b6⟩
       have HR6 := Lib.hid (HR5.out.below b6)
       have B6 := Lib.hid (B5.out.trans (b6.mono B5.out.size))
       skip
       clear b6)
    | (go_at_call 9; (with_reducible refine (wdone_at w4 w1.heap.size 0 L v4 L.length rfl HV4.out).mono ?_); rintro e4 w5 ⟨A5, c5, rfl, hba, b5⟩
       have HR5 := Lib.hid (HR4.out.below b5)
       have B5 := Lib.hid (B4.out.trans (b5.mono B4.out.size))
       skip
       clear hba b5)
    | (go_at_call 20; refine (HWR.out w3 _ HV3.out).mono ?_; rintro e3 w4 ⟨rfl, v4, h4, f4⟩
       have HV4 := Lib.hid h4
       have HR4 := Lib.hid (HR3.out.wfr f4 HBR.out (fun g hg => by simp [Value.ownBlock] at hg))
       have B4 := Lib.hid (B3.out.trans (f4.below HV3.out (Nat.le_trans B1.out.size (Nat.le_refl _))))
       clear h4 f4)
    | (go_at_call 13; refine (HRD.out _ br u2 HR2.out).mono ?_; rintro e2 w3 ⟨rfl, u3, h3, g3⟩
       have HR3 := Lib.hid h3
       have HV3 := Lib.hid (HV2.out.grown g3 (by have := HBR.out; omega) (by simp [Value.ownBlock]))
       have B3 := Lib.hid (B2.out.trans (below_of_grown g3 HLE.out B2.out.size))
       clear h3 g3)
    | (go_at_call 12; refine (read_any w _ l HA.out HBK.out.1 HBK.out.2).mono ?_; rintro e1 w1 ⟨br, u2, rfl, hle, h1, b1⟩
       have HLE := Lib.hid hle
       have HR2 : Hid (RdR (w1.alloc wrO) br 0 l u2) := rd_box h1 _
       have HV2 := Lib.hid (wr_new w1)
       have HBR : Hid (br < w1.heap.size) := h1.lt
       have B1 := Lib.hid b1
       have B2 : Hid (Below w.heap.size w (w1.alloc wrO)) := b1.alloc b1.size _
       unfold wrO at HR2 HV2 B2
       clear hle h1 b1))
  go_ret
  exact ⟨rfl, B6.out⟩
set_option maxRecDepth 100000 in
set_option maxHeartbeats 4000000 in
theorem once_num_ok (w : World) (A : Option Addr) (len cap m : Nat) (l l' L : List Int) (kind er : Int) (n : Int) (hk : (IntKind.u64.wrap kind).tmod 4 = 1) (hmin : min (len : Int) 30 = (m : Int)) (hmc : m ≤ cap)
    (hA : BAt w (.slice A m cap) l) (hb : bok l) (hl : l.length ≤ 30)
    (hrd : ∀ W br v, RdR W br 0 l v → Calls Try.prog 14 #[.pointer (some ⟨br, 0, none⟩)] W fun e w' => e = .returned (.int .i64 n) ∧ RdTo br W er l' w')
    (hwr : ∀ W b, WrR W b 0 [] (.slice none 0 0) → Calls Try.prog 21 #[.pointer (some ⟨b, 0, none⟩), .int .i64 n] W fun e w' => e = .returned (.pointer (some ⟨b, 0, none⟩)) ∧ WrTo b (.slice none 0 0) W 0 L w')
    (hfin : doneE er l' = 0 ∧ L = l) :
    Calls Try.prog 4 #[.slice A len cap, .int .i64 kind] w fun e w' => e = .returned (.bool true) ∧ Below w.heap.size w w' := by
  have hsl := slice_to A len cap m hmc
  have HA := Lib.hid hA
  have HBK : Hid (bok l ∧ l.length ≤ 2000000) := ⟨hb, by omega⟩
  have HRD := Lib.hid hrd
  have HWR := Lib.hid hwr
  have HFIN := Lib.hid hfin
  have hd := hfin.1
  clear hA hb hl hrd hwr hfin hmc
  go_enter Try.func4, Try.ntmps4
  go_wp2_with (first
    | (go_at_call 11; refine (same_eq _ _ _ l (HA.out.kept B6.out) (HC6.out) HBK.out.2).mono ?_; rintro e7 w7 ⟨rfl, b7⟩
       have B7 := Lib.hid (B6.out.trans (b7.mono B6.out.size))
       clear b7)
    | (go_at_call 18; refine (rdone_any w6 br er l' u3 HR6.out).mono ?_; rintro e6 w6' ⟨rfl, rfl⟩)
    | (go_at_call 10; refine (known_any w5).mono ?_; rintro e5 w6 ⟨rfl, b6⟩
       have HR6 := Lib.hid (HR5.out.below b6)
       have B6 := Lib.hid (B5.out.trans (b6.mono B5.out.size))
       have HC6 := Lib.hid (HC5.out.kept b6)
       clear b6)
    | (go_at_call 9; (with_reducible refine (wdone_at w4 w1.heap.size 0 L v4 L.length rfl HV4.out).mono ?_); rintro e4 w5 ⟨A5, c5, rfl, hba, b5⟩
       have HR5 := Lib.hid (HR4.out.below b5)
       have B5 := Lib.hid (B4.out.trans (b5.mono B4.out.size))
       have HC5 : Hid (BAt w5 (.slice A5 L.length c5) l) := (by show BAt _ _ _; rw [HFIN.out.2] at hba ⊢; exact hba)
       clear hba b5)
    | (go_at_call 21; refine (HWR.out w3 _ HV3.out).mono ?_; rintro e3 w4 ⟨rfl, v4, h4, f4⟩
       have HV4 := Lib.hid h4
       have HR4 := Lib.hid (HR3.out.wfr f4 HBR.out (fun g hg => by simp [Value.ownBlock] at hg))
       have B4 := Lib.hid (B3.out.trans (f4.below HV3.out (Nat.le_trans B1.out.size (Nat.le_refl _))))
       clear h4 f4)
    | (go_at_call 14; refine (HRD.out _ br u2 HR2.out).mono ?_; rintro e2 w3 ⟨rfl, u3, h3, g3⟩
       have HR3 := Lib.hid h3
       have HV3 := Lib.hid (HV2.out.grown g3 (by have := HBR.out; omega) (by simp [Value.ownBlock]))
       have B3 := Lib.hid (B2.out.trans (below_of_grown g3 HLE.out B2.out.size))
       clear h3 g3)
    | (go_at_call 12; refine (read_any w _ l HA.out HBK.out.1 HBK.out.2).mono ?_; rintro e1 w1 ⟨br, u2, rfl, hle, h1, b1⟩
       have HLE := Lib.hid hle
       have HR2 : Hid (RdR (w1.alloc wrO) br 0 l u2) := rd_box h1 _
       have HV2 := Lib.hid (wr_new w1)
       have HBR : Hid (br < w1.heap.size) := h1.lt
       have B1 := Lib.hid b1
       have B2 : Hid (Below w.heap.size w (w1.alloc wrO)) := b1.alloc b1.size _
       unfold wrO at HR2 HV2 B2
       clear hle h1 b1))
  go_ret
  exact ⟨rfl, B7.out⟩
set_option maxRecDepth 100000 in
set_option maxHeartbeats 4000000 in
theorem once_num_bad (w : World) (A : Option Addr) (len cap m : Nat) (l l' L : List Int) (kind er : Int) (n : Int) (hk : (IntKind.u64.wrap kind).tmod 4 = 1) (hmin : min (len : Int) 30 = (m : Int)) (hmc : m ≤ cap)
    (hA : BAt w (.slice A m cap) l) (hb : bok l) (hl : l.length ≤ 30)
    (hrd : ∀ W br v, RdR W br 0 l v → Calls Try.prog 14 #[.pointer (some ⟨br, 0, none⟩)] W fun e w' => e = .returned (.int .i64 n) ∧ RdTo br W er l' w')
    (hwr : ∀ W b, WrR W b 0 [] (.slice none 0 0) → Calls Try.prog 21 #[.pointer (some ⟨b, 0, none⟩), .int .i64 n] W fun e w' => e = .returned (.pointer (some ⟨b, 0, none⟩)) ∧ WrTo b (.slice none 0 0) W 0 L w')
    (hfin : ¬ doneE er l' = 0) :
    Calls Try.prog 4 #[.slice A len cap, .int .i64 kind] w fun e w' => e = .returned (.bool true) ∧ Below w.heap.size w w' := by
  have hsl := slice_to A len cap m hmc
  have HA := Lib.hid hA
  have HBK : Hid (bok l ∧ l.length ≤ 2000000) := ⟨hb, by omega⟩
  have HRD := Lib.hid hrd
  have HWR := Lib.hid hwr
  have hd := hfin
  clear hA hb hl hrd hwr hfin hmc
  go_enter Try.func4, Try.ntmps4
  go_wp2_with (first
    | (go_at_call 18; refine (rdone_any w6 br er l' u3 HR6.out).mono ?_; rintro e6 w6' ⟨rfl, rfl⟩)
    | (go_at_call 10; refine (known_any w5).mono ?_; rintro e5 w6 ⟨rfl, b6⟩
       have HR6 := Lib.hid (HR5.out.below b6)
       have B6 := Lib.hid (B5.out.trans (b6.mono B5.out.size))
       skip
       clear b6)
    | (go_at_call 9; (with_reducible refine (wdone_at w4 w1.heap.size 0 L v4 L.length rfl HV4.out).mono ?_); rintro e4 w5 ⟨A5, c5, rfl, hba, b5⟩
       have HR5 := Lib.hid (HR4.out.below b5)
       have B5 := Lib.hid (B4.out.trans (b5.mono B4.out.size))
       skip
       clear hba b5)
    | (go_at_call 21; refine (HWR.out w3 _ HV3.out).mono ?_; rintro e3 w4 ⟨rfl, v4, h4, f4⟩
       have HV4 := Lib.hid h4
       have HR4 := Lib.hid (HR3.out.wfr f4 HBR.out (fun g hg => by simp [Value.ownBlock] at hg))
       have B4 := Lib.hid (B3.out.trans (f4.below HV3.out (Nat.le_trans B1.out.size (Nat.le_refl _))))
       clear h4 f4)
    | (go_at_call 14; refine (HRD.out _ br u2 HR2.out).mono ?_; rintro e2 w3 ⟨rfl, u3, h3, g3⟩
       have HR3 := Lib.hid h3
       have HV3 := Lib.hid (HV2.out.grown g3 (by have := HBR.out; omega) (by simp [Value.ownBlock]))
       have B3 := Lib.hid (B2.out.trans (below_of_grown g3 HLE.out B2.out.size))
       clear h3 g3)
    | (go_at_call 12; refine (read_any w _ l HA.out HBK.out.1 HBK.out.2).mono ?_; rintro e1 w1 ⟨br, u2, rfl, hle, h1, b1⟩
       have HLE := Lib.hid hle
       have HR2 : Hid (RdR (w1.alloc wrO) br 0 l u2) := rd_box h1 _
       have HV2 := Lib.hid (wr_new w1)
       have HBR : Hid (br < w1.heap.size) := h1.lt
       have B1 := Lib.hid b1
       have B2 : Hid (Below w.heap.size w (w1.alloc wrO)) := b1.alloc b1.size _
       unfold wrO at HR2 HV2 B2
       clear hle h1 b1))
  go_ret
  exact ⟨rfl, B6.out⟩
set_option maxRecDepth 100000 in
set_option maxHeartbeats 4000000 in
theorem once_wid_ok (w : World) (A : Option Addr) (len cap m : Nat) (l l' L : List Int) (kind er : Int) (hi lo : Int) (hk : (IntKind.u64.wrap kind).tmod 4 = 2) (hmin : min (len : Int) 30 = (m : Int)) (hmc : m ≤ cap)
    (hA : BAt w (.slice A m cap) l) (hb : bok l) (hl : l.length ≤ 30)
    (hrd : ∀ W br v, RdR W br 0 l v → Calls Try.prog 15 #[.pointer (some ⟨br, 0, none⟩)] W fun e w' => e = .returned (.agg #[.int .i64 hi, .int .u64 lo]) ∧ RdTo br W er l' w')
    (hwr : ∀ W b, WrR W b 0 [] (.slice none 0 0) → Calls Try.prog 22 #[.pointer (some ⟨b, 0, none⟩), .agg #[.int .i64 hi, .int .u64 lo]] W fun e w' => e = .returned (.pointer (some ⟨b, 0, none⟩)) ∧ WrTo b (.slice none 0 0) W 0 L w')
    (hfin : doneE er l' = 0 ∧ L = l) :
    Calls Try.prog 4 #[.slice A len cap, .int .i64 kind] w fun e w' => e = .returned (.bool true) ∧ Below w.heap.size w w' := by
  have hsl := slice_to A len cap m hmc
  have HA := Lib.hid hA
  have HBK : Hid (bok l ∧ l.length ≤ 2000000) := ⟨hb, by omega⟩
  have HRD := Lib.hid hrd
  have HWR := Lib.hid hwr
  have HFIN := Lib.hid hfin
  have hd := hfin.1
  clear hA hb hl hrd hwr hfin hmc
  go_enter Try.func4, Try.ntmps4
  go_wp2_with (first
    | (go_at_call 11; refine (same_eq _ _ _ l (HA.out.kept B6.out) (HC6.out) HBK.out.2).mono ?_; rintro e7 w7 ⟨rfl, b7⟩
       have B7 := Lib.hid (B6.out.trans (b7.mono B6.out.size))
       clear b7)
    | (go_at_call 18; refine (rdone_any w6 br er l' u3 HR6.out).mono ?_; rintro e6 w6' ⟨rfl, rfl⟩)
    | (go_at_call 10; refine (known_any w5).mono ?_; rintro e5 w6 ⟨rfl, b6⟩
       have HR6 := Lib.hid (HR5.out.below b6)
       have B6 := Lib.hid (B5.out.trans (b6.mono B5.out.size))
       have HC6 := Lib.hid (HC5.out.kept b6)
       clear b6)
    | (go_at_call 9; (with_reducible refine (wdone_at w4 w1.heap.size 0 L v4 L.length rfl HV4.out).mono ?_); rintro e4 w5 ⟨A5, c5, rfl, hba, b5⟩
       have HR5 := Lib.hid (HR4.out.below b5)
       have B5 := Lib.hid (B4.out.trans (b5.mono B4.out.size))
       have HC5 : Hid (BAt w5 (.slice A5 L.length c5) l) := (by show BAt _ _ _; rw [HFIN.out.2] at hba ⊢; exact hba)
       clear hba b5)
    | (go_at_call 22; refine (HWR.out w3 _ HV3.out).mono ?_; rintro e3 w4 ⟨rfl, v4, h4, f4⟩
       have HV4 := Lib.hid h4
       have HR4 := Lib.hid (HR3.out.wfr f4 HBR.out (fun g hg => by simp [Value.ownBlock] at hg))
       have B4 := Lib.hid (B3.out.trans (f4.below HV3.out (Nat.le_trans B1.out.size (Nat.le_refl _))))
       clear h4 f4)
    | (go_at_call 15; refine (HRD.out _ br u2 HR2.out).mono ?_; rintro e2 w3 ⟨rfl, u3, h3, g3⟩
       have HR3 := Lib.hid h3
       have HV3 := Lib.hid (HV2.out.grown g3 (by have := HBR.out; omega) (by simp [Value.ownBlock]))
       have B3 := Lib.hid (B2.out.trans (below_of_grown g3 HLE.out B2.out.size))
       clear h3 g3)
    | (go_at_call 12; refine (read_any w _ l HA.out HBK.out.1 HBK.out.2).mono ?_; rintro e1 w1 ⟨br, u2, rfl, hle, h1, b1⟩
       have HLE := Lib.hid hle
       have HR2 : Hid (RdR (w1.alloc wrO) br 0 l u2) := rd_box h1 _
       have HV2 := Lib.hid (wr_new w1)
       have HBR : Hid (br < w1.heap.size) := h1.lt
       have B1 := Lib.hid b1
       have B2 : Hid (Below w.heap.size w (w1.alloc wrO)) := b1.alloc b1.size _
       unfold wrO at HR2 HV2 B2
       clear hle h1 b1))
  go_ret
  exact ⟨rfl, B7.out⟩
set_option maxRecDepth 100000 in
set_option maxHeartbeats 4000000 in
theorem once_wid_bad (w : World) (A : Option Addr) (len cap m : Nat) (l l' L : List Int) (kind er : Int) (hi lo : Int) (hk : (IntKind.u64.wrap kind).tmod 4 = 2) (hmin : min (len : Int) 30 = (m : Int)) (hmc : m ≤ cap)
    (hA : BAt w (.slice A m cap) l) (hb : bok l) (hl : l.length ≤ 30)
    (hrd : ∀ W br v, RdR W br 0 l v → Calls Try.prog 15 #[.pointer (some ⟨br, 0, none⟩)] W fun e w' => e = .returned (.agg #[.int .i64 hi, .int .u64 lo]) ∧ RdTo br W er l' w')
    (hwr : ∀ W b, WrR W b 0 [] (.slice none 0 0) → Calls Try.prog 22 #[.pointer (some ⟨b, 0, none⟩), .agg #[.int .i64 hi, .int .u64 lo]] W fun e w' => e = .returned (.pointer (some ⟨b, 0, none⟩)) ∧ WrTo b (.slice none 0 0) W 0 L w')
    (hfin : ¬ doneE er l' = 0) :
    Calls Try.prog 4 #[.slice A len cap, .int .i64 kind] w fun e w' => e = .returned (.bool true) ∧ Below w.heap.size w w' := by
  have hsl := slice_to A len cap m hmc
  have HA := Lib.hid hA
  have HBK : Hid (bok l ∧ l.length ≤ 2000000) := ⟨hb, by omega⟩
  have HRD := Lib.hid hrd
  have HWR := Lib.hid hwr
  have hd := hfin
  clear hA hb hl hrd hwr hfin hmc
  go_enter Try.func4, Try.ntmps4
  go_wp2_with (first
    | (go_at_call 18; refine (rdone_any w6 br er l' u3 HR6.out).mono ?_; rintro e6 w6' ⟨rfl, rfl⟩)
    | (go_at_call 10; refine (known_any w5).mono ?_; rintro e5 w6 ⟨rfl, b6⟩
       have HR6 := Lib.hid (HR5.out.below b6)
       have B6 := Lib.hid (B5.out.trans (b6.mono B5.out.size))
       skip
       clear b6)
    | (go_at_call 9; (with_reducible refine (wdone_at w4 w1.heap.size 0 L v4 L.length rfl HV4.out).mono ?_); rintro e4 w5 ⟨A5, c5, rfl, hba, b5⟩
       have HR5 := Lib.hid (HR4.out.below b5)
       have B5 := Lib.hid (B4.out.trans (b5.mono B4.out.size))
       skip
       clear hba b5)
    | (go_at_call 22; refine (HWR.out w3 _ HV3.out).mono ?_; rintro e3 w4 ⟨rfl, v4, h4, f4⟩
       have HV4 := Lib.hid h4
       have HR4 := Lib.hid (HR3.out.wfr f4 HBR.out (fun g hg => by simp [Value.ownBlock] at hg))
       have B4 := Lib.hid (B3.out.trans (f4.below HV3.out (Nat.le_trans B1.out.size (Nat.le_refl _))))
       clear h4 f4)
    | (go_at_call 15; refine (HRD.out _ br u2 HR2.out).mono ?_; rintro e2 w3 ⟨rfl, u3, h3, g3⟩
       have HR3 := Lib.hid h3
       have HV3 := Lib.hid (HV2.out.grown g3 (by have := HBR.out; omega) (by simp [Value.ownBlock]))
       have B3 := Lib.hid (B2.out.trans (below_of_grown g3 HLE.out B2.out.size))
       clear h3 g3)
    | (go_at_call 12; refine (read_any w _ l HA.out HBK.out.1 HBK.out.2).mono ?_; rintro e1 w1 ⟨br, u2, rfl, hle, h1, b1⟩
       have HLE := Lib.hid hle
       have HR2 : Hid (RdR (w1.alloc wrO) br 0 l u2) := rd_box h1 _
       have HV2 := Lib.hid (wr_new w1)
       have HBR : Hid (br < w1.heap.size) := h1.lt
       have B1 := Lib.hid b1
       have B2 : Hid (Below w.heap.size w (w1.alloc wrO)) := b1.alloc b1.size _
       unfold wrO at HR2 HV2 B2
       clear hle h1 b1))
  go_ret
  exact ⟨rfl, B6.out⟩
set_option maxRecDepth 100000 in
set_option maxHeartbeats 4000000 in
theorem once_wid_err (w : World) (A : Option Addr) (len cap m : Nat) (l l' L : List Int) (kind : Int) (hi lo : Int) (hk : (IntKind.u64.wrap kind).tmod 4 = 2) (hmin : min (len : Int) 30 = (m : Int)) (hmc : m ≤ cap)
    (hA : BAt w (.slice A m cap) l) (hb : bok l) (hl : l.length ≤ 30)
    (hrd : ∀ W br v, RdR W br 0 l v → Calls Try.prog 15 #[.pointer (some ⟨br, 0, none⟩)] W fun e w' => ∃ er, ¬ er = 0 ∧ e = .returned (.agg #[.int .i64 hi, .int .u64 lo]) ∧ RdTo br W er l' w')
    (hwr : ∀ W b, WrR W b 0 [] (.slice none 0 0) → Calls Try.prog 22 #[.pointer (some ⟨b, 0, none⟩), .agg #[.int .i64 hi, .int .u64 lo]] W fun e w' => e = .returned (.pointer (some ⟨b, 0, none⟩)) ∧ WrTo b (.slice none 0 0) W 0 L w')
    :
    Calls Try.prog 4 #[.slice A len cap, .int .i64 kind] w fun e w' => e = .returned (.bool true) ∧ Below w.heap.size w w' := by
  have hsl := slice_to A len cap m hmc
  have HA := Lib.hid hA
  have HBK : Hid (bok l ∧ l.length ≤ 2000000) := ⟨hb, by omega⟩
  have HRD := Lib.hid hrd
  have HWR := Lib.hid hwr
  clear hA hb hl hrd hwr hmc
  go_enter Try.func4, Try.ntmps4
  go_wp2_with (first
    | (go_at_call 18; refine (rdone_any w6 br er l' u3 HR6.out).mono ?_; rintro e6 w6' ⟨rfl, rfl⟩)
    | (go_at_call 10; refine (known_any w5).mono ?_; rintro e5 w6 ⟨rfl, b6⟩
       have HR6 := Lib.hid (HR5.out.below b6)
       have B6 := Lib.hid (B5.out.trans (b6.mono B5.out.size))
       skip
       clear b6)
    | (go_at_call 9; (with_reducible refine (wdone_at w4 w1.heap.size 0 L v4 L.length rfl HV4.out).mono ?_); rintro e4 w5 ⟨A5, c5, rfl, hba, b5⟩
       have HR5 := Lib.hid (HR4.out.below b5)
       have B5 := Lib.hid (B4.out.trans (b5.mono B4.out.size))
       skip
       clear hba b5)
    | (go_at_call 22; refine (HWR.out w3 _ HV3.out).mono ?_; rintro e3 w4 ⟨rfl, v4, h4, f4⟩
       have HV4 := Lib.hid h4
       have HR4 := Lib.hid (HR3.out.wfr f4 HBR.out (fun g hg => by simp [Value.ownBlock] at hg))
       have B4 := Lib.hid (B3.out.trans (f4.below HV3.out (Nat.le_trans B1.out.size (Nat.le_refl _))))
       clear h4 f4)
    | (go_at_call 15; refine (HRD.out _ br u2 HR2.out).mono ?_; rintro e2 w3 ⟨er, hne, rfl, u3, h3, g3⟩
       have hd : ¬ doneE er l' = 0 := (by rw [doneE_yes hne]; exact hne)
       have HR3 := Lib.hid h3
       have HV3 := Lib.hid (HV2.out.grown g3 (by have := HBR.out; omega) (by simp [Value.ownBlock]))
       have B3 := Lib.hid (B2.out.trans (below_of_grown g3 HLE.out B2.out.size))
       clear h3 g3)
    | (go_at_call 12; refine (read_any w _ l HA.out HBK.out.1 HBK.out.2).mono ?_; rintro e1 w1 ⟨br, u2, rfl, hle, h1, b1⟩
       have HLE := Lib.hid hle
       have HR2 : Hid (RdR (w1.alloc wrO) br 0 l u2) := rd_box h1 _
       have HV2 := Lib.hid (wr_new w1)
       have HBR : Hid (br < w1.heap.size) := h1.lt
       have B1 := Lib.hid b1
       have B2 : Hid (Below w.heap.size w (w1.alloc wrO)) := b1.alloc b1.size _
       unfold wrO at HR2 HV2 B2
       clear hle h1 b1))
  go_ret
  exact ⟨rfl, B6.out⟩
set_option maxRecDepth 100000 in
set_option maxHeartbeats 4000000 in
theorem once_txt_ok (w : World) (A : Option Addr) (len cap m : Nat) (l l' L : List Int) (kind er : Int) (s : ByteArray) (hk : (IntKind.u64.wrap kind).tmod 4 = 3) (hmin : min (len : Int) 30 = (m : Int)) (hmc : m ≤ cap)
    (hA : BAt w (.slice A m cap) l) (hb : bok l) (hl : l.length ≤ 30)
    (hrd : ∀ W br v, RdR W br 0 l v → Calls Try.prog 16 #[.pointer (some ⟨br, 0, none⟩), .int .i64 100] W fun e w' => e = .returned (.string s) ∧ RdTo br W er l' w')
    (hwr : ∀ W b, WrR W b 0 [] (.slice none 0 0) → Calls Try.prog 23 #[.pointer (some ⟨b, 0, none⟩), .slice (some ⟨W.heap.size, 0, none⟩) 1 1] (W.alloc (.cells #[.string s] 9)) fun e w' => e = .returned (.pointer (some ⟨b, 0, none⟩)) ∧ WrTo b (.slice none 0 0) (W.alloc (.cells #[.string s] 9)) 0 L w')
    (hfin : doneE er l' = 0 ∧ L = l) :
    Calls Try.prog 4 #[.slice A len cap, .int .i64 kind] w fun e w' => e = .returned (.bool true) ∧ Below w.heap.size w w' := by
  have hsl := slice_to A len cap m hmc
  have HA := Lib.hid hA
  have HBK : Hid (bok l ∧ l.length ≤ 2000000) := ⟨hb, by omega⟩
  have HRD := Lib.hid hrd
  have HWR := Lib.hid hwr
  have HFIN := Lib.hid hfin
  have hd := hfin.1
  clear hA hb hl hrd hwr hfin hmc
  go_enter Try.func4, Try.ntmps4
  go_wp2_with (first
    | (go_at_call 11; refine (same_eq _ _ _ l (HA.out.kept B6.out) (HC6.out) HBK.out.2).mono ?_; rintro e7 w7 ⟨rfl, b7⟩
       have B7 := Lib.hid (B6.out.trans (b7.mono B6.out.size))
       clear b7)
    | (go_at_call 18; refine (rdone_any w6 br er l' u3 HR6.out).mono ?_; rintro e6 w6' ⟨rfl, rfl⟩)
    | (go_at_call 10; refine (known_any w5).mono ?_; rintro e5 w6 ⟨rfl, b6⟩
       have HR6 := Lib.hid (HR5.out.below b6)
       have B6 := Lib.hid (B5.out.trans (b6.mono B5.out.size))
       have HC6 := Lib.hid (HC5.out.kept b6)
       clear b6)
    | (go_at_call 9; (with_reducible refine (wdone_at w4 w1.heap.size 0 L v4 L.length rfl HV4.out).mono ?_); rintro e4 w5 ⟨A5, c5, rfl, hba, b5⟩
       have HR5 := Lib.hid (HR4.out.below b5)
       have B5 := Lib.hid (B4.out.trans (b5.mono B4.out.size))
       have HC5 : Hid (BAt w5 (.slice A5 L.length c5) l) := (by show BAt _ _ _; rw [HFIN.out.2] at hba ⊢; exact hba)
       clear hba b5)
    | (go_at_call 23; refine (HWR.out w3 _ HV3.out).mono ?_; rintro e3 w4 ⟨rfl, v4, h4, f4⟩
       have HV4 := Lib.hid h4
       have HR4 := Lib.hid ((HR3.out.below ((Below.refl _ _).alloc (Nat.le_refl _) _)).wfr f4 HBR.out (fun g hg => by simp [Value.ownBlock] at hg))
       have B4 := Lib.hid ((B3.out.alloc B3.out.size _).trans (f4.below (HV3.out.below ((Below.refl _ _).alloc (Nat.le_refl _) _)) (Nat.le_trans B1.out.size (Nat.le_refl _))))
       clear h4 f4)
    | (go_at_call 16; refine (HRD.out _ br u2 HR2.out).mono ?_; rintro e2 w3 ⟨rfl, u3, h3, g3⟩
       have HR3 := Lib.hid h3
       have HV3 := Lib.hid (HV2.out.grown g3 (by have := HBR.out; omega) (by simp [Value.ownBlock]))
       have B3 := Lib.hid (B2.out.trans (below_of_grown g3 HLE.out B2.out.size))
       clear h3 g3)
    | (go_at_call 12; refine (read_any w _ l HA.out HBK.out.1 HBK.out.2).mono ?_; rintro e1 w1 ⟨br, u2, rfl, hle, h1, b1⟩
       have HLE := Lib.hid hle
       have HR2 : Hid (RdR (w1.alloc wrO) br 0 l u2) := rd_box h1 _
       have HV2 := Lib.hid (wr_new w1)
       have HBR : Hid (br < w1.heap.size) := h1.lt
       have B1 := Lib.hid b1
       have B2 : Hid (Below w.heap.size w (w1.alloc wrO)) := b1.alloc b1.size _
       unfold wrO at HR2 HV2 B2
       clear hle h1 b1))
  go_ret
  exact ⟨rfl, B7.out⟩
set_option maxRecDepth 100000 in
set_option maxHeartbeats 4000000 in
theorem once_txt_bad (w : World) (A : Option Addr) (len cap m : Nat) (l l' L : List Int) (kind er : Int) (s : ByteArray) (hk : (IntKind.u64.wrap kind).tmod 4 = 3) (hmin : min (len : Int) 30 = (m : Int)) (hmc : m ≤ cap)
    (hA : BAt w (.slice A m cap) l) (hb : bok l) (hl : l.length ≤ 30)
    (hrd : ∀ W br v, RdR W br 0 l v → Calls Try.prog 16 #[.pointer (some ⟨br, 0, none⟩), .int .i64 100] W fun e w' => e = .returned (.string s) ∧ RdTo br W er l' w')
    (hwr : ∀ W b, WrR W b 0 [] (.slice none 0 0) → Calls Try.prog 23 #[.pointer (some ⟨b, 0, none⟩), .slice (some ⟨W.heap.size, 0, none⟩) 1 1] (W.alloc (.cells #[.string s] 9)) fun e w' => e = .returned (.pointer (some ⟨b, 0, none⟩)) ∧ WrTo b (.slice none 0 0) (W.alloc (.cells #[.string s] 9)) 0 L w')
    (hfin : ¬ doneE er l' = 0) :
    Calls Try.prog 4 #[.slice A len cap, .int .i64 kind] w fun e w' => e = .returned (.bool true) ∧ Below w.heap.size w w' := by
  have hsl := slice_to A len cap m hmc
  have HA := Lib.hid hA
  have HBK : Hid (bok l ∧ l.length ≤ 2000000) := ⟨hb, by omega⟩
  have HRD := Lib.hid hrd
  have HWR := Lib.hid hwr
  have hd := hfin
  clear hA hb hl hrd hwr hfin hmc
  go_enter Try.func4, Try.ntmps4
  go_wp2_with (first
    | (go_at_call 18; refine (rdone_any w6 br er l' u3 HR6.out).mono ?_; rintro e6 w6' ⟨rfl, rfl⟩)
    | (go_at_call 10; refine (known_any w5).mono ?_; rintro e5 w6 ⟨rfl, b6⟩
       have HR6 := Lib.hid (HR5.out.below b6)
       have B6 := Lib.hid (B5.out.trans (b6.mono B5.out.size))
       skip
       clear b6)
    | (go_at_call 9; (with_reducible refine (wdone_at w4 w1.heap.size 0 L v4 L.length rfl HV4.out).mono ?_); rintro e4 w5 ⟨A5, c5, rfl, hba, b5⟩
       have HR5 := Lib.hid (HR4.out.below b5)
       have B5 := Lib.hid (B4.out.trans (b5.mono B4.out.size))
       skip
       clear hba b5)
    | (go_at_call 23; refine (HWR.out w3 _ HV3.out).mono ?_; rintro e3 w4 ⟨rfl, v4, h4, f4⟩
       have HV4 := Lib.hid h4
       have HR4 := Lib.hid ((HR3.out.below ((Below.refl _ _).alloc (Nat.le_refl _) _)).wfr f4 HBR.out (fun g hg => by simp [Value.ownBlock] at hg))
       have B4 := Lib.hid ((B3.out.alloc B3.out.size _).trans (f4.below (HV3.out.below ((Below.refl _ _).alloc (Nat.le_refl _) _)) (Nat.le_trans B1.out.size (Nat.le_refl _))))
       clear h4 f4)
    | (go_at_call 16; refine (HRD.out _ br u2 HR2.out).mono ?_; rintro e2 w3 ⟨rfl, u3, h3, g3⟩
       have HR3 := Lib.hid h3
       have HV3 := Lib.hid (HV2.out.grown g3 (by have := HBR.out; omega) (by simp [Value.ownBlock]))
       have B3 := Lib.hid (B2.out.trans (below_of_grown g3 HLE.out B2.out.size))
       clear h3 g3)
    | (go_at_call 12; refine (read_any w _ l HA.out HBK.out.1 HBK.out.2).mono ?_; rintro e1 w1 ⟨br, u2, rfl, hle, h1, b1⟩
       have HLE := Lib.hid hle
       have HR2 : Hid (RdR (w1.alloc wrO) br 0 l u2) := rd_box h1 _
       have HV2 := Lib.hid (wr_new w1)
       have HBR : Hid (br < w1.heap.size) := h1.lt
       have B1 := Lib.hid b1
       have B2 : Hid (Below w.heap.size w (w1.alloc wrO)) := b1.alloc b1.size _
       unfold wrO at HR2 HV2 B2
       clear hle h1 b1))
  go_ret
  exact ⟨rfl, B6.out⟩
end Go.Proofs.Ytmicmldhjmadcaa.Oc
