/-
  JournalOpens' law. Conditions: none.
-/
import Derived.Test.YtklngdmpledgeaaGreatJZ32
import Derived.Test.YtklngdmpledgeaaGreatJZ25
namespace Go.Proofs.YtklngdmpledgeaaGreat.Jo
open Go.RowKit Fr Sr
attribute [local go_sem] Oper.semAt_some

theorem step_app_w {P : Program} (w : World) {ops : Array Oper} {o : Oper} {a : Act} {K : Act → World → Prop} {Q : Exit → Act → World → Prop} {E : Prop} (hw : Region.wanted o (yielded ops a.tmps) = true) (s x : Operand) (t tn : TypeId)
    (ho : o.op = .call { callee := .builtin .append, args := #[s, x], argTypes := #[t, tn] }) (vs vx : Value) (hs : a.eval s = vs) (hx : a.eval x = vx)
    (v' : Value) (w' : World) (hr : (Builtin.append_ #[t, tn] o.type #[vs, vx]).run P w = .ok v' w') (h : K (a.put o.dst v') w') :
    if Region.wanted o (yielded ops a.tmps) = true then Oper.wp P o a w K Q else E := by
  rw [if_pos hw]
  exact Lib.wp_append_run w s x t tn ho vs vx hs hx v' w' hr h
theorem nxt_top (B : List Int) : nxt (cnt B) ≤ 4611686018427387904 := by
  unfold nxt
  split
  · omega
  · rename_i x hx
    obtain ⟨l, _, _, h⟩ := cnt_from B (List.mem_of_getLast? hx)
    have := dec_le h
    omega
set_option maxRecDepth 100000 in
set_option maxHeartbeats 8000000 in
theorem law_opens (w : World) (A0 : Option Addr) (n0 c0 : Nat) (l0 : List Int) (hw0 : BAt w (.slice A0 n0 c0) l0) (hb0 : bok l0) (A1 : Option Addr) (n1 c1 : Nat) (l1 : List Int) (hw1 : BAt w (.slice A1 n1 c1) l1) (hb1 : bok l1) :
    Calls Tryz.prog 3 #[.slice A0 n0 c0, .slice A1 n1 c1] w fun e w' => e = .returned (.bool true) ∧ Below w.heap.size w w' := by
  have hz0 := hw0.len
  have hz1 := hw1.len
  obtain ⟨m0, hm0⟩ : ∃ m0, m0 = min n0 600 := ⟨_, rfl⟩
  obtain ⟨m1, hm1⟩ : ∃ m1, m1 = min n1 100 := ⟨_, rfl⟩
  have hs0 := slice_to A0 n0 c0 m0 (by omega)
  have hs1 := slice_to A1 n1 c1 m1 (by omega)
  have hmin0 : min (n0 : Int) 600 = (m0 : Int) := by omega
  have hmin1 : min (n1 : Int) 100 = (m1 : Int) := by omega
  have hx0 := (hw0.take m0 (by omega)).1
  have hx1 := (hw1.take m1 (by omega)).1
  obtain ⟨B, hB⟩ : ∃ B, B = l0.take m0 := ⟨_, rfl⟩
  obtain ⟨X, hX⟩ : ∃ X, X = l1.take m1 := ⟨_, rfl⟩
  rw [← hB] at hx0
  rw [← hX] at hx1
  have hbB : bok B := fun y hy => hb0 y (List.mem_of_mem_take (by rw [← hB]; exact hy))
  have hbX : bok X := fun y hy => hb1 y (List.mem_of_mem_take (by rw [← hX]; exact hy))
  have hlB := hx0.len
  have hlX := hx1.len
  obtain ⟨z, hz⟩ : ∃ z, z = whole (cnt B) := ⟨_, rfl⟩
  obtain ⟨nx, hnx⟩ : ∃ nx, nx = nxt (cnt B) := ⟨_, rfl⟩
  have hzl : z ≤ m0 := by have := whole_len B; omega
  have hsz := slice_to A0 m0 c0 z (by omega)
  have hxz := (hx0.take z hzl).1
  have hrl := recs_len B
  have htop := nxt_top B
  rw [← hnx] at htop
  have HB : Hid (BAt w (.slice A0 m0 c0) B ∧ bok B ∧ m0 ≤ 600 ∧ B.length = m0) := ⟨hx0, hbB, by omega, hlB.1⟩
  have HX : Hid (BAt w (.slice A1 m1 c1) X ∧ bok X ∧ m1 ≤ 100 ∧ X.length = m1) := ⟨hx1, hbX, by omega, hlX.1⟩
  have HZ : Hid (BAt w (.slice A0 z c0) (B.take z) ∧ z ≤ m0) := ⟨hxz, hzl⟩
  have HZE := Lib.hid hz
  have HNX := Lib.hid hnx
  have HRL : Hid ((recs (cnt B)).length ≤ 600) := Lib.hid (by omega)
  have HW := fun (W : World) => Sr.new_any W 100000 (by decide) (by decide)
  have HW := Lib.hid HW
  have hz00 : (0 : Int) ≤ (z : Int) := by omega
  have HTK : Hid ((B.take z).length = z) := Lib.hid (by rw [List.length_take]; omega)
  have HRF : Hid ((recF nx X).length ≤ 118) := Lib.hid (by rw [recF_len]; have := (Oc.grp_len nx).1; omega)
  have HLN : Hid ((B.take z ++ recF nx X).length ≤ 2000000) := Lib.hid (by rw [List.length_append, HTK.out]; have := HRF.out; omega)
  clear hw0 hb0 hw1 hb1 hz0 hz1 hm0 hm1 hx0 hx1 hB hX hbB hbX hlB hlX hz hnx hzl hxz hrl
  by_cases hg : nx ≤ 4611686018427387903
  · have t9 : ¬ (4611686018427387903 : Int) < (nx : Int) := by omega
    have HG := Lib.hid hg
    clear hg htop
    go_enter Tryz.func3, Tryz.ntmps3
    go_upto_region 1 with fail
    refine wp_region_below (W := w) (by kernel_rfl) (by kernel_rfl) (Below.refl _ _) ?_
    repeat (go_big_quiet_step (fail))
    refine wpQuiet_nil ?_
    rintro _ ⟨q0, rfl⟩
    obtain ⟨wq, hbq⟩ := q0
    try dsimp only
    have HBQ := Lib.hid hbq
    clear hbq hs0 hs1 hmin0 hmin1
    go_upto_region 15 with (first
      | (go_at_call 9; (with_reducible refine (o_next HO6.out (by have := HB.out; omega)).mono ?_); rintro e w7 ⟨rfl, rfl⟩; rw [← HNX.out])
      | (go_at_call 10; (with_reducible refine (o_read HO5.out).mono ?_); rintro e w6 ⟨A6, n6, c6, q6, rfl, hb6, hw6⟩
         have HD6 := Lib.hid hb6
         have HO6 := Lib.hid (HO5.out.below hw6)
         clear hb6 hw6)
      | (go_at_call 12; (with_reducible refine (o_app HO4.out HX.out.1 HX.out.2.1 HX.out.2.2.1 HG.out HRL.out).mono ?_); rintro e w5 ⟨rfl, ho5⟩; have HO5 := Lib.hid ho5; clear ho5)
      | (go_at_call 11; (with_reducible refine (bsame_any w3 _ _ _ (B.take z) HD3.out (HZ.out.1.kept HO3r.out.bel) (by rw [List.length_take]; have := HB.out; omega) (by rw [List.length_take]; have := HB.out; omega)).mono ?_); rintro e w4 ⟨he4, hw4⟩
         rw [decide_eq_true rfl] at he4
         subst he4
         have HO4 := Lib.hid (HO3r.out.below hw4)
         clear hw4)
      | (go_at_call 10; (with_reducible refine (o_read HO3.out).mono ?_); rintro e w3 ⟨A3, n3, c3, q3, rfl, hb3, hw3⟩
         have HD3 := Lib.hid hb3
         have HO3r := Lib.hid (HO3.out.below hw3)
         clear hb3 hw3)
      | (go_at_call 8; (with_reducible refine (o_is2 HNX.out HO2.out (by have := HB.out; omega)).mono ?_); rintro e wi ⟨rfl, hwi⟩; have HO3 := Lib.hid (HO2.out.below hwi); clear hwi)
      | (go_at_call 9; (with_reducible refine (o_next HO2.out (by have := HB.out; omega)).mono ?_); rintro e w7 ⟨rfl, rfl⟩; rw [← HNX.out])
      | (go_at_call 7; (with_reducible refine (o_open HC.out HB.out.2.1 (by have := HB.out; omega)).mono ?_); rintro e w2 ⟨j, t, rfl, ho2⟩
         rw [← HZE.out, ← HNX.out] at ho2
         have HO2 := Lib.hid ho2
         clear ho2)
      | (go_at_call 6; (with_reducible refine (o_counts HOW.out HB.out.1 HB.out.2.1 HB.out.2.2.1).mono ?_); rintro e w1c ⟨Av, nv, cv, rfl, hc⟩
         rw [← HZE.out]
         have HC := Lib.hid hc
         clear hc)
      | (go_at_call 5; (with_reducible refine (o_write HST.out HP.out HBN.out HB.out.1 HB.out.2.2.1).mono ?_); rintro e w1b ⟨rfl, how⟩; have HOW := Lib.hid how; clear how)
      | (go_at_call 4; (with_reducible refine (HW.out _).mono ?_); rintro e w1 ⟨rfl, hst, hbn, hlt⟩
         obtain ⟨p, hp⟩ : ∃ p, p = wq.heap.size := ⟨_, rfl⟩
         rw [← hp] at hst ⊢
         have HST : Hid (StR w1 p (VS 0) none []) := Lib.hid hst
         have HP : Hid (w.heap.size ≤ p) := Lib.hid (by rw [hp]; exact HBQ.out.size)
         have HBN := Lib.hid (HBQ.out.trans (hbn.mono HBQ.out.size))
         clear hst hbn hlt hp))
    go_upto_region 17 with fail
    have hal := alloc_below w6 (.cells #[.int .i64 (nx : Int), .slice A1 m1 c1] 42)
    have hblk := block_new w6 (.cells #[.int .i64 (nx : Int), .slice A1 m1 c1] 42)
    obtain ⟨w8, hw8⟩ : ∃ W, W = w6.alloc (.cells #[.int .i64 (nx : Int), .slice A1 m1 c1] 42) := ⟨_, rfl⟩
    rw [← hw8] at hal hblk ⊢
    obtain ⟨b8, hb8⟩ : ∃ b, b = w6.heap.size := ⟨_, rfl⟩
    rw [← hb8] at hblk ⊢
    have D8 : w8.cell? ⟨b8, 0, none⟩ = some (.int .i64 (nx : Int)) ∧ w8.cell? ⟨b8, 1, none⟩ = some (.slice A1 m1 c1) := ⟨by simp [World.cell?, hblk], by simp [World.cell?, hblk]⟩
    have HB8 : Hid (Below w6.heap.size w6 w8 ∧ b8 < w8.heap.size) := Lib.hid ⟨hal, (Array.getElem?_eq_some_iff.1 hblk).1⟩
    clear hal hblk hw8 hb8
    have HL8 : Hid (b8 < w8.heap.size) := Lib.hid HB8.out.2
    have HO8 := Lib.hid (HO6.out.bel.trans (HB8.out.1.mono HO6.out.bel.size))
    have HD8 := Lib.hid (HD6.out.kept HB8.out.1)
    go_region_held3 (fun w' => w'.cell? ⟨b8, 0, none⟩ = some (.int .i64 (nx : Int)) ∧ w'.cell? ⟨b8, 1, none⟩ = some (.slice A1 m1 c1))
      (first
        | (exact D13)
        | (exact D12)
        | (exact D11)
        | (exact D10)
        | (exact D9)
        | (exact D8)
        | go_keep)
      (first
        | (go_at_call 11; (with_reducible refine (bsame_any w12 _ _ _ (B.take z ++ recF nx X) (HD8.out.kept HB12.out) HE12.out HLN.out HLN.out).mono ?_); rintro e w13 ⟨he13, hb13⟩
           rw [decide_eq_true rfl] at he13
           subst he13
           have HB13 : Hid (Below w8.heap.size w8 w13) := Lib.hid (HB12.out.trans (hb13.mono HB12.out.size))
           have D13 : w13.cell? ⟨b8, 0, none⟩ = some (.int .i64 (nx : Int)) ∧ w13.cell? ⟨b8, 1, none⟩ = some (.slice A1 m1 c1) := ⟨(HB13.out.cell (p := ⟨b8, 0, none⟩) HL8.out).trans D8.1, (HB13.out.cell (p := ⟨b8, 1, none⟩) HL8.out).trans D8.2⟩
           clear hb13)
        | (refine step_app_w _ (by rfl) (.tmp 126) (.tmp 128) 22 22 (by rfl) _ _ (by rfl) (by rfl) (.slice A12 p12 c12) w12 hrun12 ?_)
        | (go_at_call 14; (with_reducible refine (rframe_any w10 nx A1 m1 c1 X (HX.out.1.kept (HO8.out.trans (HB10.out.mono HO8.out.size))) HX.out.2.1 (by have := HX.out; omega) (by have := HG.out; omega)).mono ?_); rintro e w11 ⟨A11, q11, c11, rfl, hq11, hb11, hw11⟩
           have HB11 : Hid (Below w8.heap.size w8 w11) := Lib.hid (HB10.out.trans (hw11.mono HB10.out.size))
           have D11 : w11.cell? ⟨b8, 0, none⟩ = some (.int .i64 (nx : Int)) ∧ w11.cell? ⟨b8, 1, none⟩ = some (.slice A1 m1 c1) := ⟨(HB11.out.cell (p := ⟨b8, 0, none⟩) HL8.out).trans D8.1, (HB11.out.cell (p := ⟨b8, 1, none⟩) HL8.out).trans D8.2⟩
           obtain ⟨p12, hp12⟩ : ∃ p12, p12 = z + q11 := ⟨_, rfl⟩
           obtain ⟨A12, c12, w12, hrun12, hbat12, hown12, hgr12⟩ := app_named (p := p12) (Oc.ownsRow_kept HO10.out (fun g hg => hw11.block g (HO10.out.lt g hg).2)) HTK.out.symm hb11 hq11.symm hp12 (by have h1 : (recF nx X).length ≤ 118 := HRF.out; have := HZ.out; have := HB.out; omega) (Nat.le_trans HS10.out hw11.size)
           have HB12 : Hid (Below w8.heap.size w8 w12) := Lib.hid (HB11.out.grown hgr12 HB11.out.size (fun j hj => Nat.le_trans HB9.out.size (HO10.out.lt j hj).1))
           have D12 : w12.cell? ⟨b8, 0, none⟩ = some (.int .i64 (nx : Int)) ∧ w12.cell? ⟨b8, 1, none⟩ = some (.slice A1 m1 c1) := ⟨(HB12.out.cell (p := ⟨b8, 0, none⟩) HL8.out).trans D8.1, (HB12.out.cell (p := ⟨b8, 1, none⟩) HL8.out).trans D8.2⟩
           have HE12 := Lib.hid hbat12
           clear hb11 hw11 hown12 hgr12 hp12 hq11 hbat12)
        | (refine step_app_w _ (by rfl) (.tmp 122) (.tmp 125) 22 22 (by rfl) _ _ (by rfl) (by rfl) (.slice A10 z c10) w10 hrun10 ?_)
        | (go_at_call 13; (with_reducible refine (known_any _).mono ?_); rintro e w9 ⟨rfl, hb9⟩
           have HB9 : Hid (Below w8.heap.size w8 w9) := Lib.hid ((Below.refl _ _).drew.trans hb9)
           have D9 : w9.cell? ⟨b8, 0, none⟩ = some (.int .i64 (nx : Int)) ∧ w9.cell? ⟨b8, 1, none⟩ = some (.slice A1 m1 c1) := ⟨(HB9.out.cell (p := ⟨b8, 0, none⟩) HL8.out).trans D8.1, (HB9.out.cell (p := ⟨b8, 1, none⟩) HL8.out).trans D8.2⟩
           obtain ⟨A10, c10, w10, hrun10, hown10, hbw10⟩ := j_new (HZ.out.1.kept (HO8.out.trans (HB9.out.mono HO8.out.size))) HTK.out (by have := HZ.out; have := HB.out; omega)
           have HB10 : Hid (Below w8.heap.size w8 w10) := Lib.hid (HB9.out.trans (hbw10.mono HB9.out.size))
           have D10 : w10.cell? ⟨b8, 0, none⟩ = some (.int .i64 (nx : Int)) ∧ w10.cell? ⟨b8, 1, none⟩ = some (.slice A1 m1 c1) := ⟨(HB10.out.cell (p := ⟨b8, 0, none⟩) HL8.out).trans D8.1, (HB10.out.cell (p := ⟨b8, 1, none⟩) HL8.out).trans D8.2⟩
           have HS10 : Hid (w9.heap.size ≤ w10.heap.size) := Lib.hid hbw10.size
           have HO10 := Lib.hid hown10
           clear hb9 hown10 hbw10))
    all_goals
      go_wp2
      go_ret
      exact ⟨rfl, HO8.out.trans (HB13.out.mono HO8.out.size)⟩
  · have hg2 : nx = 4611686018427387904 := by omega
    have t9 : (4611686018427387903 : Int) < (nx : Int) := by omega
    have HNG := Lib.hid hg2
    clear hg htop hg2
    go_enter Tryz.func3, Tryz.ntmps3
    go_upto_region 1 with fail
    refine wp_region_below (W := w) (by kernel_rfl) (by kernel_rfl) (Below.refl _ _) ?_
    repeat (go_big_quiet_step (fail))
    refine wpQuiet_nil ?_
    rintro _ ⟨q0, rfl⟩
    obtain ⟨wq, hbq⟩ := q0
    try dsimp only
    have HBQ := Lib.hid hbq
    clear hbq hs0 hs1 hmin0 hmin1
    go_upto_region 15 with (first
      | (go_at_call 9; (with_reducible refine (o_next HO6.out (by have := HB.out; omega)).mono ?_); rintro e w7 ⟨rfl, rfl⟩; rw [← HNX.out])
      | (go_at_call 10; (with_reducible refine (o_read HO4.out).mono ?_); rintro e w6 ⟨A6, n6, c6, q6, rfl, hb6, hw6⟩
         have HD6 := Lib.hid hb6
         have HO6 := Lib.hid (HO4.out.below hw6)
         clear hb6 hw6)
      | (go_at_call 12; (with_reducible refine (o_long (HNG.out ▸ HO4.out) _).mono ?_); rintro e w5 ⟨rfl, rfl⟩)
      | (go_at_call 11; (with_reducible refine (bsame_any w3 _ _ _ (B.take z) HD3.out (HZ.out.1.kept HO3r.out.bel) (by rw [List.length_take]; have := HB.out; omega) (by rw [List.length_take]; have := HB.out; omega)).mono ?_); rintro e w4 ⟨he4, hw4⟩
         rw [decide_eq_true rfl] at he4
         subst he4
         have HO4 := Lib.hid (HO3r.out.below hw4)
         clear hw4)
      | (go_at_call 10; (with_reducible refine (o_read HO3.out).mono ?_); rintro e w3 ⟨A3, n3, c3, q3, rfl, hb3, hw3⟩
         have HD3 := Lib.hid hb3
         have HO3r := Lib.hid (HO3.out.below hw3)
         clear hb3 hw3)
      | (go_at_call 8; (with_reducible refine (o_is2 HNX.out HO2.out (by have := HB.out; omega)).mono ?_); rintro e wi ⟨rfl, hwi⟩; have HO3 := Lib.hid (HO2.out.below hwi); clear hwi)
      | (go_at_call 9; (with_reducible refine (o_next HO2.out (by have := HB.out; omega)).mono ?_); rintro e w7 ⟨rfl, rfl⟩; rw [← HNX.out])
      | (go_at_call 7; (with_reducible refine (o_open HC.out HB.out.2.1 (by have := HB.out; omega)).mono ?_); rintro e w2 ⟨j, t, rfl, ho2⟩
         rw [← HZE.out, ← HNX.out] at ho2
         have HO2 := Lib.hid ho2
         clear ho2)
      | (go_at_call 6; (with_reducible refine (o_counts HOW.out HB.out.1 HB.out.2.1 HB.out.2.2.1).mono ?_); rintro e w1c ⟨Av, nv, cv, rfl, hc⟩
         rw [← HZE.out]
         have HC := Lib.hid hc
         clear hc)
      | (go_at_call 5; (with_reducible refine (o_write HST.out HP.out HBN.out HB.out.1 HB.out.2.2.1).mono ?_); rintro e w1b ⟨rfl, how⟩; have HOW := Lib.hid how; clear how)
      | (go_at_call 4; (with_reducible refine (HW.out _).mono ?_); rintro e w1 ⟨rfl, hst, hbn, hlt⟩
         obtain ⟨p, hp⟩ : ∃ p, p = wq.heap.size := ⟨_, rfl⟩
         rw [← hp] at hst ⊢
         have HST : Hid (StR w1 p (VS 0) none []) := Lib.hid hst
         have HP : Hid (w.heap.size ≤ p) := Lib.hid (by rw [hp]; exact HBQ.out.size)
         have HBN := Lib.hid (HBQ.out.trans (hbn.mono HBQ.out.size))
         clear hst hbn hlt hp))
    have hal := alloc_below w6 (.cells #[.int .i64 (nx : Int), .slice A1 m1 c1] 42)
    have hblk := block_new w6 (.cells #[.int .i64 (nx : Int), .slice A1 m1 c1] 42)
    obtain ⟨w8, hw8⟩ : ∃ W, W = w6.alloc (.cells #[.int .i64 (nx : Int), .slice A1 m1 c1] 42) := ⟨_, rfl⟩
    rw [← hw8] at hal hblk ⊢
    obtain ⟨b8, hb8⟩ : ∃ b, b = w6.heap.size := ⟨_, rfl⟩
    rw [← hb8] at hblk ⊢
    have D8 : w8.cell? ⟨b8, 0, none⟩ = some (.int .i64 (nx : Int)) := by simp [World.cell?, hblk]
    have HO8 := Lib.hid (HO6.out.bel.trans (hal.mono HO6.out.bel.size))
    have HD8 := Lib.hid (HD6.out.kept hal)
    clear hal hblk hw8 hb8
    go_wp2_with (first
      | (go_at_call 11; (with_reducible refine (bsame_any w9 _ _ _ (B.take z) (HD8.out.kept HB9.out) (HZ.out.1.kept (HO8.out.trans (HB9.out.mono HO8.out.size))) (by rw [HTK.out]; have := HZ.out; have := HB.out; omega) (by rw [HTK.out]; have := HZ.out; have := HB.out; omega)).mono ?_); rintro e w10 ⟨he10, hb10⟩
         rw [decide_eq_true rfl] at he10
         subst he10
         have HB10 : Hid (Below w8.heap.size w8 w10) := Lib.hid (HB9.out.trans (hb10.mono HB9.out.size))
         clear hb10)
      | (go_at_call 13; (with_reducible refine (known_any _).mono ?_); rintro e w9 ⟨rfl, hb9⟩
         have HB9 : Hid (Below w8.heap.size w8 w9) := Lib.hid hb9
         clear hb9))
    go_ret
    exact ⟨rfl, HO8.out.trans (HB10.out.mono HO8.out.size)⟩
end Go.Proofs.YtklngdmpledgeaaGreat.Jo
