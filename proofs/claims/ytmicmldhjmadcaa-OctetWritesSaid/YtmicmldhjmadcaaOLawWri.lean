/-
  OctetWrites answers true for all parts. Conditions: the parts' own ranges; of them the first forty are taken.
-/
import Derived.Test.YtmicmldhjmadcaaOParts
import Derived.Test.YtmicmldhjmadcaaOOnc
import Derived.Lib.Builder
namespace Go.Proofs.Ytmicmldhjmadcaa.Oc
open Go.RowKit

theorem neq_self (a : Addr) (W : World) : (binOp .neq 23 (.pointer (some a)) (.pointer (some a))).run Try.prog W = .ok (.bool false) W := by
  obtain ⟨j, hj⟩ : ∃ j, Try.prog.info? 29 = some j := Option.isSome_iff_exists.1 (by kernel_rfl)
  exact Lib.run_neq_ptr_same W a Try.underlying23 hj
theorem slice_parts (A : Option Addr) (n cap q : Nat) (h : q ≤ cap) : ∀ W : World, (Instr.slice 22 (.slice A n cap) none (some (.int .i64 (q : Int))) none).run Try.prog W = .ok (.slice A q cap) W := fun W => by
  cases A with
  | none => simp [Instr.slice, Instr.sliceBounds, Instr.sliceBound, asIntOf, run_underlying Try.underlying22, h]
  | some a =>
    obtain ⟨g, o, f⟩ := a
    simp [Instr.slice, Instr.sliceBounds, Instr.sliceBound, asIntOf, run_underlying Try.underlying22, h]
    try (unfold Addr.add; simp)
set_option maxRecDepth 100000 in
set_option maxHeartbeats 8000000 in
theorem law_writes (w : World) (A : Option Addr) (len cap m : Nat) (ps : List Pt) (hmin : min (len : Int) 40 = (m : Int)) (hmc : m ≤ cap) (hpm : ps.length = m) (hP : PIn w A ps) :
    Calls Try.prog 3 #[.slice A len cap] w fun e w' => e = .returned (.bool true) ∧ Below w.heap.size w w' := by
  have hsl := slice_parts A len cap m hmc
  have hns := neq_self
  have HP := Lib.hid hP
  have HPM := Lib.hid hpm
  have hm40 : m ≤ 40 := by omega
  have HI : Hid (LpI w ps 0 true (.slice none 0 0) (w.alloc wrO)) :=
    ⟨0, [], .slice none 0 0, wr_new w, World.ownsRow_nil _ _ _ _, fun g hg => by simp [Value.ownBlock] at hg, rfl, fun _ => ⟨rfl, rfl⟩, fun h => (by cases h), (Below.refl _ _).alloc (Nat.le_refl _) _⟩
  obtain ⟨i0, hi0, hz0, hz1, hz2⟩ := info_parts u8Inf
  clear hP hpm hmc
  unfold wrO at HI
  go_enter Try.func3, Try.ntmps3
  go_wp2
  go_loopg [4, 5, 6] m (fun k s4 s5 s6 wx => ∃ (i : Nat) (right : Bool) (v : Value), k = m - i ∧ i ≤ m ∧ s4 = v ∧ s5 = .bool right ∧ s6 = .int .i64 (i : Int) ∧ Hid (LpI w ps i right v wx))
  case atStart => exact ⟨0, true, _, rfl, Nat.zero_le _, rfl, rfl, rfl, HI⟩
  case round =>
    clear HI
    obtain ⟨i, right, v, rfl, hi, rfl, rfl, rfl, hinv⟩ := hrel
    by_cases hlt : i < m
    · have t1 : (i : Int) < (m : Int) := by omega
      have t0 : (0 : Int) ≤ (i : Int) := by omega
      obtain ⟨p, hp⟩ : ∃ p, ps[i]? = some p := ⟨_, List.getElem?_eq_getElem (by have := HPM.out; omega)⟩
      obtain ⟨g, o, rfl, hg, hcell⟩ := HP.out.2 (by have := HPM.out; omega)
      obtain ⟨⟨c0, c1⟩, c2, c3, c4⟩ := hcell i p hp
      have hbx : Below w.heap.size w wr := by obtain ⟨_, _, _, _, _, _, _, _, _, h⟩ := hinv.out; exact h
      have d0 := (hbx.cell (p := ⟨g, o + i * 5, none⟩) hg).trans c0
      have d1 := (hbx.cell (p := ⟨g, o + i * 5 + 1, none⟩) hg).trans c1
      have d2 := (hbx.cell (p := ⟨g, o + i * 5 + 2, none⟩) hg).trans c2
      have d3 := (hbx.cell (p := ⟨g, o + i * 5 + 3, none⟩) hg).trans c3
      have d4 := (hbx.cell (p := ⟨g, o + i * 5 + 4, none⟩) hg).trans c4
      obtain ⟨er, l, vw, hW, hroom, hO, hol, hstep⟩ := LpI.step hp hinv.out (by omega)
      obtain ⟨n3, hn3⟩ : ∃ n3, n3 = min p.s.size 300 := ⟨_, rfl⟩
      have hmin3 : min (p.s.size : Int) 300 = (n3 : Int) := by omega
      have hss := fun W => slice_str p.s n3 (by omega) W
      have ht : p.s.extract 0 n3 = p.t := by rw [hn3]; rfl
      rw [ht] at hss
      have HST := Lib.hid hstep
      have HO := Lib.hid hO
      have hpo := HP.out.1 p (List.mem_of_getElem? hp)
      obtain ⟨hd1, hd2⟩ := p.d_eq
      have htl : p.t.size ≤ 300 := by rw [p.t_len]; omega
      have hbp : Below wr.heap.size wr (wr.alloc (partO p.k p.n (p.lo : Int) p.t p.m)) := (Below.refl _ _).alloc (Nat.le_refl _) _
      have HWR := Lib.hid (lwrite_any _ w.heap.size er l vw p.k p.n p.lo p.d p.t p.m (hW.below hbp) hd1 hd2 hpo.1.1 hpo.1.2 hpo.2 htl hroom)
      have HLB := Lib.hid (fun W => lbytes_any W p.k p.n p.lo p.d p.t p.m hd1 hd2 hpo.1.1 hpo.1.2 hpo.2 htl)
      have HBP := Lib.hid hbp
      have hbl := p.bs_len
      have HPT := Lib.hid (block_new wr (partO p.k p.n (p.lo : Int) p.t p.m))
      unfold partV partO at *
      have HWX := Lib.hid hW
      have hbpos := p.bs_pos
      clear c0 c1 c2 c3 c4 hcell hinv hn3 ht hstep hO hW hroom hbp hpo hd1 hd2 htl hbx
      go_wp2_with (first
        | (at_builtin; refine wpList_append_lies _ rfl _ _ 27 rfl (w.heap.size + 1) 5 i0 _ 1 1 Try.underlying27 hi0 hz0 hz1 hz2 rfl (by decide) u4 (allB (ps.take i)).length (bv (allB (ps.take i))) rfl HO3.out.1 ⟨gb, 0, none⟩ p.bs.length cb (bv p.bs) rfl (by rw [bv_len]; omega) HCB.out (bv_one _) (by omega) (by unfold maxLen; omega) (by omega) HO3.out.2.1 w3.heap.size rfl ?_; intro gg cp w4 hown4 hgrow4 hat4 hlt4)
        | (go_at_call 8; refine (HLB.out w2).mono ?_; rintro e2 w3 ⟨vb, rfl, hob, hb3⟩
           have HO3 := Lib.hid (HST.out _ w2 w3 HBP.out HW2.out vb hb3 hob)
           obtain ⟨gb, cb, rfl, _, _⟩ := hob.form hbpos
           have HCB := Lib.hid (hob.cells (g := gb) rfl)
           clear hob hb3)
        | (go_at_call 7; refine HWR.out.mono ?_; rintro e1 w2 ⟨rfl, h2⟩
           have HW2 := Lib.hid h2
           obtain ⟨vw2, _, hF2⟩ := h2
           obtain ⟨f0, f1, f2, f3, f4⟩ := block_cell5 (hF2.at HPT.out (by have := HWX.out.lt; omega) (fun ee => by have := (HWX.out.2.1.lt _ ee).2; omega))
           clear hF2))
      all_goals
        have FIN := Lib.hid (HO3.out.2.2 gg cp w4 hown4 hgrow4 hat4)
        go_roundg (m - (i + 1))
        case measure => omega
        case rel => exact ⟨i + 1, right && p.pk, _, rfl, hlt, rfl, by (first | (simp_all [Pt.pk]; done) | skip), by go_num, FIN⟩
    · have him : i = m := by omega
      subst him
      have htk : ps.take i = ps := List.take_of_length_le (by have := HPM.out; omega)
      obtain ⟨er, l, vw, hW, hO, _, hr, ht, hf, hbx⟩ := hinv.out
      rw [htk] at hO hr ht
      have t1 : decide ((i : Int) < (i : Int)) = false := by simp
      have t1b : ¬ (i : Int) < (i : Int) := by omega
      cases right with
      | false =>
        obtain ⟨rfl, rfl⟩ := hf rfl
        have HWX := Lib.hid hW
        have HBX := Lib.hid hbx
        clear hW hO hr ht hf hbx hinv htk
        go_wp2_with (first
          | (go_at_call 10; refine (known_any w5).mono ?_; rintro e5 w6 ⟨rfl, b6⟩; have B6 := Lib.hid (B5.out.trans (b6.mono B5.out.size)); clear b6)
          | (go_at_call 9; refine (wdone_at wr w.heap.size 1 [] vw 0 rfl HWX.out).mono ?_; rintro e4 w5 ⟨A5, c5, rfl, _, b5⟩; have B5 := Lib.hid (HBX.out.trans (b5.mono HBX.out.size)); clear b5))
        go_ret
        exact ⟨rfl, B6.out⟩
      | true =>
        obtain ⟨rfl, rfl⟩ := ht rfl
        have hall : ∀ p ∈ ps, p.pk = true := by have := hr.symm; rw [List.all_eq_true] at this; exact this
        obtain ⟨A4, n4, c4, rfl⟩ := own_slice hO
        have hLl := allB_len ps
        obtain ⟨L, hL⟩ : ∃ L, L = allB ps := ⟨_, rfl⟩
        have hLb : bok L := by rw [hL]; exact allB_bok ps HP.out.1
        rw [← hL] at hW hO hLl
        obtain ⟨N, hN⟩ : ∃ N, L.length = N := ⟨_, rfl⟩
        have HN := Lib.hid hN
        have HL := Lib.hid hL
        have HLB : Hid (bok L ∧ L.length ≤ 2000000) := ⟨hLb, by have := HPM.out; omega⟩
        have HWX := Lib.hid hW
        have HBX := Lib.hid hbx
        have HO := Lib.hid (BAt.of_own hO)
        have HAL := Lib.hid hall
        clear hW hO hr ht hf hbx hinv htk hLl hLb hN hL hall
        go_wp2_with (first
          | (go_at_call 12; refine (read_any w6 _ L (HD5.out.kept B56.out) HLB.out.1 HLB.out.2).mono ?_; rintro e6 w7 ⟨br, u7, rfl, hle, hr7, b7⟩
             have HR7 := Lib.hid hr7
             have HLE := Lib.hid hle
             have B7 := Lib.hid (B6.out.trans (b7.mono B6.out.size))
             have BLE : Hid (w.heap.size ≤ w6.heap.size) := B6.out.size
             clear hle hr7 b7)
          | (go_at_call 11; refine (same_eq w5 _ _ L HD5.out (HO.out.kept B45.out) HLB.out.2).mono ?_; rintro e5 w6 ⟨rfl, b6⟩; have B56 := Lib.hid b6; have B6 := Lib.hid (B5.out.trans (b6.mono B5.out.size)); clear b6)
          | (go_at_call 9; refine (wdone_at wr w.heap.size 0 L vw N HN.out HWX.out).mono ?_; rintro e4 w5 ⟨A5, c5, rfl, hba, b5⟩; have HD5 := Lib.hid hba; have B45 := Lib.hid b5; have B5 := Lib.hid (HBX.out.trans (b5.mono HBX.out.size)); clear hba b5))
        have HJ0 : Hid (RdTo br w7 0 (allB (ps.drop 0)) w7) := ⟨u7, by have h := HR7.out; rw [HL.out] at h; exact h, grownBy_refl _ _⟩
        have ZB : Hid (br < w7.heap.size) := HR7.out.lt
        clear HR7
        go_loopg [13] i (fun k s13 wx => ∃ j : Nat, k = i - j ∧ j ≤ i ∧ s13 = .int .i64 (j : Int) ∧ Hid (RdTo br w7 0 (allB (ps.drop j)) wx))
        case atStart => exact ⟨0, rfl, Nat.zero_le _, rfl, HJ0⟩
        case round =>
          clear HJ0
          obtain ⟨j, rfl, hj, rfl, hrd⟩ := hrel
          have t0 : (0 : Int) ≤ (j : Int) := by omega
          by_cases hjlt : j < i
          · have tj : (j : Int) < (i : Int) := by omega
            obtain ⟨u8, hr8, gr8⟩ := hrd.out
            have hbw7 : Below w.heap.size w7 wr := below_of_grown gr8 (Nat.le_trans BLE.out HLE.out) B7.out.size
            have hbw := B7.out.trans hbw7
            obtain ⟨p, hp⟩ : ∃ p, ps[j]? = some p := ⟨_, List.getElem?_eq_getElem (by have := HPM.out; omega)⟩
            have hpm : p ∈ ps := List.mem_of_getElem? hp
            have hpo := HP.out.1 p hpm
            obtain ⟨g, o, rfl, hg, hcell⟩ := HP.out.2 (by have := HPM.out; omega)
            obtain ⟨⟨c0, c1⟩, c2, c3, c4⟩ := hcell j p hp
            have d0 := (hbw.cell (p := ⟨g, o + j * 5, none⟩) hg).trans c0
            have d1 := (hbw.cell (p := ⟨g, o + j * 5 + 1, none⟩) hg).trans c1
            have d2 := (hbw.cell (p := ⟨g, o + j * 5 + 2, none⟩) hg).trans c2
            have d3 := (hbw.cell (p := ⟨g, o + j * 5 + 3, none⟩) hg).trans c3
            have d4 := (hbw.cell (p := ⟨g, o + j * 5 + 4, none⟩) hg).trans c4
            obtain ⟨n3, hn3⟩ : ∃ n3, n3 = min p.s.size 300 := ⟨_, rfl⟩
            have hmin3 : min (p.s.size : Int) 300 = (n3 : Int) := by omega
            have hss := fun W => slice_str p.s n3 (by omega) W
            have ht : p.s.extract 0 n3 = p.t := by rw [hn3]; rfl
            rw [ht] at hss
            obtain ⟨hd1, hd5⟩ := p.d_eq
            rw [allB_drop hp] at hr8
            have HPB := Lib.hid (block_new wr (partO p.k p.n (p.lo : Int) p.t p.m))
            have D0 := Lib.hid (part_cells wr p.k p.n (p.lo : Int) p.t p.m)
            have HRD0 : Hid (RdR ((wr.alloc (partO p.k p.n (p.lo : Int) p.t p.m)).drew) br 0 (p.bs ++ allB (ps.drop (j + 1))) u8) := (rd_box hr8 _).drew
            have GR := Lib.hid gr8
            have XB : Hid (wr.heap.size ≠ br) := by have := gr8.size; have := ZB.out; show wr.heap.size ≠ br; omega
            clear c0 c1 c2 c3 c4 hcell hn3 ht hbw hbw7 hr8 gr8 hrd hp
            unfold partO at *
            rcases (by omega : p.d = 0 ∨ p.d = 1 ∨ p.d = 2 ∨ p.d = 3 ∨ p.d = 4) with hd | hd | hd | hd | hd
            · have HRX := Lib.hid (fun W v h => read0 W br v p _ hd (HAL.out p hpm) hpo.1.2 h : ∀ W v, RdR W br 0 (p.bs ++ allB (ps.drop (j + 1))) v → _)
              have hk5 : (IntKind.u64.wrap p.k).tmod 5 = 0 := by rw [hd1, hd]; rfl
              clear hd1 hd hpo hpm
              go_wp2_with fail
              go_region_held3 (fun w' => w'.cell? ⟨wr.heap.size, 1, none⟩ = some (.int .i64 p.n) ∧ w'.cell? ⟨wr.heap.size, 2, none⟩ = some (.int .u64 (p.lo : Int)) ∧ w'.cell? ⟨wr.heap.size, 3, none⟩ = some (.string p.t))
                (first
                  | (exact D1)
                  | (exact D0.out)
                  | go_keep)
                (first
                  | (go_at_call 13; refine (HRX.out _ _ HRD0.out).mono ?_; rintro e8 w9 ⟨rfl, u9, hr9, g9⟩
                     have hbx9 := block_grown (w := (wr.alloc (.cells #[.int .i64 p.k, .int .i64 p.n, .int .u64 (p.lo : Int), .string p.t, .int .i64 p.m] 32)).drew) HPB.out g9 XB.out
                     have D1 : w9.cell? ⟨wr.heap.size, 1, none⟩ = some (.int .i64 p.n) ∧ w9.cell? ⟨wr.heap.size, 2, none⟩ = some (.int .u64 (p.lo : Int)) ∧ w9.cell? ⟨wr.heap.size, 3, none⟩ = some (.string p.t) := (have h := block_cell5 hbx9; ⟨h.2.1, h.2.2.1, h.2.2.2.1⟩)
                     have FIN : Hid (RdTo br w7 0 (allB (ps.drop (j + 1))) w9) := ⟨u9, hr9, grownBy_trans (grownBy_trans GR.out (grownBy_trans (grownBy_alloc wr _ _) (grownBy_drew _ _))) g9⟩
                     clear hbx9 hr9 g9))
              all_goals
                go_wp2
                go_roundg (i - (j + 1))
                case measure => omega
                case rel => exact ⟨j + 1, rfl, hjlt, by go_num, FIN⟩
            · have HRX := Lib.hid (fun W v h => read1 W br v p _ hd hpo h : ∀ W v, RdR W br 0 (p.bs ++ allB (ps.drop (j + 1))) v → _)
              have hk5 : (IntKind.u64.wrap p.k).tmod 5 = 1 := by rw [hd1, hd]; rfl
              clear hd1 hd hpo hpm
              go_wp2_with fail
              go_region_held3 (fun w' => w'.cell? ⟨wr.heap.size, 1, none⟩ = some (.int .i64 p.n) ∧ w'.cell? ⟨wr.heap.size, 2, none⟩ = some (.int .u64 (p.lo : Int)) ∧ w'.cell? ⟨wr.heap.size, 3, none⟩ = some (.string p.t))
                (first
                  | (exact D1)
                  | (exact D0.out)
                  | go_keep)
                (first
                  | (go_at_call 14; refine (HRX.out _ _ HRD0.out).mono ?_; rintro e8 w9 ⟨rfl, u9, hr9, g9⟩
                     have hbx9 := block_grown (w := (wr.alloc (.cells #[.int .i64 p.k, .int .i64 p.n, .int .u64 (p.lo : Int), .string p.t, .int .i64 p.m] 32)).drew) HPB.out g9 XB.out
                     have D1 : w9.cell? ⟨wr.heap.size, 1, none⟩ = some (.int .i64 p.n) ∧ w9.cell? ⟨wr.heap.size, 2, none⟩ = some (.int .u64 (p.lo : Int)) ∧ w9.cell? ⟨wr.heap.size, 3, none⟩ = some (.string p.t) := (have h := block_cell5 hbx9; ⟨h.2.1, h.2.2.1, h.2.2.2.1⟩)
                     have FIN : Hid (RdTo br w7 0 (allB (ps.drop (j + 1))) w9) := ⟨u9, hr9, grownBy_trans (grownBy_trans GR.out (grownBy_trans (grownBy_alloc wr _ _) (grownBy_drew _ _))) g9⟩
                     clear hbx9 hr9 g9))
              all_goals
                go_wp2
                go_roundg (i - (j + 1))
                case measure => omega
                case rel => exact ⟨j + 1, rfl, hjlt, by go_num, FIN⟩
            · have HRX := Lib.hid (fun W v h => read2 W br v p _ hd hpo h : ∀ W v, RdR W br 0 (p.bs ++ allB (ps.drop (j + 1))) v → _)
              have hk5 : (IntKind.u64.wrap p.k).tmod 5 = 2 := by rw [hd1, hd]; rfl
              clear hd1 hd hpo hpm
              go_wp2_with fail
              go_region_held3 (fun w' => w'.cell? ⟨wr.heap.size, 1, none⟩ = some (.int .i64 p.n) ∧ w'.cell? ⟨wr.heap.size, 2, none⟩ = some (.int .u64 (p.lo : Int)) ∧ w'.cell? ⟨wr.heap.size, 3, none⟩ = some (.string p.t))
                (first
                  | (exact D1)
                  | (exact D0.out)
                  | go_keep)
                (first
                  | (go_at_call 15; refine (HRX.out _ _ HRD0.out).mono ?_; rintro e8 w9 ⟨rfl, u9, hr9, g9⟩
                     have hbx9 := block_grown (w := (wr.alloc (.cells #[.int .i64 p.k, .int .i64 p.n, .int .u64 (p.lo : Int), .string p.t, .int .i64 p.m] 32)).drew) HPB.out g9 XB.out
                     have D1 : w9.cell? ⟨wr.heap.size, 1, none⟩ = some (.int .i64 p.n) ∧ w9.cell? ⟨wr.heap.size, 2, none⟩ = some (.int .u64 (p.lo : Int)) ∧ w9.cell? ⟨wr.heap.size, 3, none⟩ = some (.string p.t) := (have h := block_cell5 hbx9; ⟨h.2.1, h.2.2.1, h.2.2.2.1⟩)
                     have FIN : Hid (RdTo br w7 0 (allB (ps.drop (j + 1))) w9) := ⟨u9, hr9, grownBy_trans (grownBy_trans GR.out (grownBy_trans (grownBy_alloc wr _ _) (grownBy_drew _ _))) g9⟩
                     clear hbx9 hr9 g9))
              all_goals
                go_wp2
                go_roundg (i - (j + 1))
                case measure => omega
                case rel => exact ⟨j + 1, rfl, hjlt, by go_num, FIN⟩
            · have HRX := Lib.hid (fun W v h => read3 W br v p _ hd h : ∀ W v, RdR W br 0 (p.bs ++ allB (ps.drop (j + 1))) v → _)
              have hk5 : (IntKind.u64.wrap p.k).tmod 5 = 3 := by rw [hd1, hd]; rfl
              clear hd1 hd hpo hpm
              go_wp2_with fail
              go_region_held3 (fun w' => w'.cell? ⟨wr.heap.size, 1, none⟩ = some (.int .i64 p.n) ∧ w'.cell? ⟨wr.heap.size, 2, none⟩ = some (.int .u64 (p.lo : Int)) ∧ w'.cell? ⟨wr.heap.size, 3, none⟩ = some (.string p.t))
                (first
                  | (exact D1)
                  | (exact D0.out)
                  | go_keep)
                (first
                  | (go_at_call 16; refine (HRX.out _ _ HRD0.out).mono ?_; rintro e8 w9 ⟨rfl, u9, hr9, g9⟩
                     have hbx9 := block_grown (w := (wr.alloc (.cells #[.int .i64 p.k, .int .i64 p.n, .int .u64 (p.lo : Int), .string p.t, .int .i64 p.m] 32)).drew) HPB.out g9 XB.out
                     have D1 : w9.cell? ⟨wr.heap.size, 1, none⟩ = some (.int .i64 p.n) ∧ w9.cell? ⟨wr.heap.size, 2, none⟩ = some (.int .u64 (p.lo : Int)) ∧ w9.cell? ⟨wr.heap.size, 3, none⟩ = some (.string p.t) := (have h := block_cell5 hbx9; ⟨h.2.1, h.2.2.1, h.2.2.2.1⟩)
                     have FIN : Hid (RdTo br w7 0 (allB (ps.drop (j + 1))) w9) := ⟨u9, hr9, grownBy_trans (grownBy_trans GR.out (grownBy_trans (grownBy_alloc wr _ _) (grownBy_drew _ _))) g9⟩
                     clear hbx9 hr9 g9))
              all_goals
                go_wp2
                go_roundg (i - (j + 1))
                case measure => omega
                case rel => exact ⟨j + 1, rfl, hjlt, by go_num, FIN⟩
            · have HRX := Lib.hid (fun W v h => read4 W br v p _ hd h : ∀ W v, RdR W br 0 (p.bs ++ allB (ps.drop (j + 1))) v → _)
              obtain ⟨cc, hcc⟩ : ∃ cc, cc = p.lo % 256 := ⟨_, rfl⟩
              have e1 : (p.lo : Int) % 256 = (cc : Int) := by omega
              have e1' : (p.lo : Int).tmod 256 = (cc : Int) := by rw [Int.tmod_eq_emod_of_nonneg (by omega)]; omega
              have cc1 : cc < 256 := by omega
              have hw8 : IntKind.u8.wrap (cc : Int) = (cc : Int) := by simp [IntKind.wrap, IntKind.bits, IntKind.signed]; omega
              rw [← hcc] at HRX
              clear hcc
              have hk5 : (IntKind.u64.wrap p.k).tmod 5 = 4 := by rw [hd1, hd]; rfl
              clear hd1 hd hpo hpm
              go_wp2_with fail
              go_region_held3 (fun w' => w'.cell? ⟨wr.heap.size, 1, none⟩ = some (.int .i64 p.n) ∧ w'.cell? ⟨wr.heap.size, 2, none⟩ = some (.int .u64 (p.lo : Int)) ∧ w'.cell? ⟨wr.heap.size, 3, none⟩ = some (.string p.t))
                (first
                  | (exact D1)
                  | (exact D0.out)
                  | go_keep)
                (first
                  | (go_at_call 17; refine (HRX.out _ _ HRD0.out).mono ?_; rintro e8 w9 ⟨rfl, u9, hr9, g9⟩
                     have hbx9 := block_grown (w := (wr.alloc (.cells #[.int .i64 p.k, .int .i64 p.n, .int .u64 (p.lo : Int), .string p.t, .int .i64 p.m] 32)).drew) HPB.out g9 XB.out
                     have D1 : w9.cell? ⟨wr.heap.size, 1, none⟩ = some (.int .i64 p.n) ∧ w9.cell? ⟨wr.heap.size, 2, none⟩ = some (.int .u64 (p.lo : Int)) ∧ w9.cell? ⟨wr.heap.size, 3, none⟩ = some (.string p.t) := (have h := block_cell5 hbx9; ⟨h.2.1, h.2.2.1, h.2.2.2.1⟩)
                     have FIN : Hid (RdTo br w7 0 (allB (ps.drop (j + 1))) w9) := ⟨u9, hr9, grownBy_trans (grownBy_trans GR.out (grownBy_trans (grownBy_alloc wr _ _) (grownBy_drew _ _))) g9⟩
                     clear hbx9 hr9 g9))
              all_goals
                go_wp2
                go_roundg (i - (j + 1))
                case measure => omega
                case rel => exact ⟨j + 1, rfl, hjlt, by go_num, FIN⟩
          · have hji : j = i := by omega
            subst hji
            have tj : decide ((j : Int) < (j : Int)) = false := by simp
            have tjb : ¬ (j : Int) < (j : Int) := by omega
            have hde : ps.drop j = [] := List.drop_of_length_le (by have := HPM.out; omega)
            obtain ⟨u8, hr8, gr8⟩ := hrd.out
            rw [hde] at hr8
            have HR8 : Hid (RdR wr br 0 [] u8) := hr8
            have B8 := Lib.hid (B7.out.trans (below_of_grown gr8 (Nat.le_trans BLE.out HLE.out) B7.out.size))
            clear hde hr8 gr8 hrd
            go_wp2_with (first
              | (go_at_call 19; refine (rest_any w9 br 0 [] u8 HR9.out).mono ?_; rintro e9 w10 ⟨rfl, rfl⟩)
              | (go_at_call 18; refine (rdone_any w9 br 0 [] u8 HR9.out).mono ?_; rintro e9 w10 ⟨rfl, rfl⟩)
              | (go_at_call 10; refine (known_any wr).mono ?_; rintro e8 w9 ⟨rfl, b9⟩; have HR9 := Lib.hid (HR8.out.below b9); have B9 := Lib.hid (B8.out.trans (b9.mono B8.out.size)); clear b9))
            go_ret
            exact ⟨rfl, B9.out⟩
end Go.Proofs.Ytmicmldhjmadcaa.Oc
