/-
  The law NetTurns answers true: its walk. Conditions: none.
-/
import Derived.Test.YtnekjbdogdghnaaNTrn
namespace Go.Proofs.Ytnekjbdogdghnaa.Ne
open Go.RowKit Go.Conc Bx
open Fr (BAt bok bv)

theorem bys_news {ts : List (List Int)} (h : ∀ t ∈ ts, bok t) : bys (news ts) = ts := by
  unfold bys news
  rw [List.map_map]
  conv => rhs; rw [← List.map_id ts]
  exact List.map_congr_left fun t ht => sb_strOf (h t ht)
theorem news_len (ts : List (List Int)) : (news ts).length = ts.length := by simp [news]
theorem rot_step {l : List V} {i : Nat} (hi : i < l.length) : ∃ x r, l.drop i ++ l.take i = x :: r ∧ r ++ [x] = l.drop (i + 1) ++ l.take (i + 1) := by
  refine ⟨l[i], l.drop (i + 1) ++ l.take i, ?_, ?_⟩
  · rw [List.drop_eq_getElem_cons hi]; rfl
  · rw [List.take_succ_eq_append_getElem hi, List.append_assoc]
theorem BoX.get {B : Nat} {W : World} {v : Value} {vs : List Value} {ls : List (List Int)} (h : BoX B W v vs ls) {j : Nat} {l : List Int} (hl : ls[j]? = some l) : ∃ g c A k, v = .slice (some ⟨g, 0, none⟩) ls.length c ∧ W.cell? ⟨g, j, none⟩ = some (.slice A l.length k) ∧ WB B W (.slice A l.length k) l := by
  have hj : j < vs.length := by rw [h.len]; exact (List.getElem?_eq_some_iff.1 hl).1
  have hv : vs[j]? = some vs[j] := List.getElem?_eq_getElem hj
  have hb := h.at_ j _ l hv hl
  rcases h.own.2 with ⟨_, h2⟩ | ⟨g, cap, cur, h2, h3, h4, _⟩
  · omega
  · have hc := h.own.cells (g := g) (by rw [h2]; rfl) j _ hv
    rw [show (Addr.mk g 0 none).add j = ⟨g, j, none⟩ by unfold Addr.add; split <;> simp_all] at hc
    obtain ⟨A, k, e, _⟩ := id hb
    rw [e] at hc hb
    exact ⟨g, cap, A, k, by rw [h2, h.len], hc, hb⟩
theorem SoR.cellv {w W : World} {B g n c : Nat} {vs : List Value} {ts : List (List Int)} (h : SoR w B W (.slice (some ⟨g, 0, none⟩) n c) vs ts) {j : Nat} {u : Value} (hv : vs[j]? = some u) : W.cell? ⟨g, j, none⟩ = some u := by
  have hc := h.own.cells (g := g) rfl j _ hv
  rwa [show (Addr.mk g 0 none).add j = ⟨g, j, none⟩ by unfold Addr.add; split <;> simp_all] at hc
theorem SoR.vof {w W : World} {B g n c : Nat} {vs : List Value} {ts : List (List Int)} (h : SoR w B W (.slice (some ⟨g, 0, none⟩) n c) vs ts) {j : Nat} {u : Value} (hj : j < ts.length) (hc : W.cell? ⟨g, j, none⟩ = some u) : vs[j]? = some u := by
  have hj' : j < vs.length := by rw [h.len]; exact hj
  have h1 := h.cellv (List.getElem?_eq_getElem hj')
  rw [hc] at h1
  rw [List.getElem?_eq_getElem hj', ← Option.some.inj h1]
theorem bend_get (l : List Int) (n i : Nat) (b : Int) (hn : n < l.length) : (Fr.bend l (n : Int) b).getD i 0 = if i = n then Fr.xb (l.getD i 0) b else l.getD i 0 := by
  unfold Fr.bend
  rw [if_pos ⟨by omega, by omega⟩]
  simp only [Int.toNat_natCast, List.getD, List.getElem?_set]
  by_cases h : n = i
  · subst h
    rw [if_pos rfl, if_pos hn, if_pos rfl]; rfl
  · rw [if_neg h, if_neg (fun e => h e.symm)]
set_option maxRecDepth 100000 in
set_option maxHeartbeats 8000000 in
theorem law_turns (w : World) (A : Option Addr) (n c : Nat) (ts : List (List Int)) (h : SFr w.heap.size w (.slice A n c) ts) (a b : Int) (hb : 0 ≤ b ∧ b < 256) : Calls Try.prog 4 #[.slice A n c, .int .i64 a, .int .u8 b] w fun e w' => e = .returned (.bool true) ∧ Below w.heap.size w w' := by
  have CN : Hid (Calls Try.prog 8 #[.int .i64 1, .int .i64 100] w fun e w' => e = .returned (.tuple #[.pointer (some ⟨w.heap.size, 0, none⟩), .int .i64 0]) ∧ (∃ g cp arr bs, NetB w.heap.size w' w.heap.size 100 [[]] 0 g cp arr bs) ∧ Below w.heap.size w w') := nNew_any w 1 100 (by omega) (by omega) (by omega) (by omega)
  obtain ⟨k, hk⟩ : ∃ k, k = min 20 n := ⟨_, rfl⟩
  have hn : ts.length = n := by obtain ⟨_, _, e, _⟩ := h; cases e; rfl
  have HN : Hid (ts.length = n ∧ k = min 20 n) := ⟨hn, hk⟩
  have HS := Lib.hid h
  have HB := Lib.hid hb
  have hk1 : k ≤ n := by omega
  have hk2 : k ≤ 20 := by omega
  clear h hn hk hb
  go_enter Try.func4, Try.ntmps4
  go_upto_block 0 with (first
    | (go_at_call 8; (with_reducible refine CN.out.mono ?_); rintro e w1 ⟨rfl, n1, k1⟩
       have N1 := Lib.hid n1
       have K1 := Lib.hid k1
       clear n1 k1))
  go_cut [9, 10] from 29 to 53 (fun s9 _ wx => ∃ (A2 : Option Addr) (c2 : Nat) (vs : List Value), s9 = .slice A2 k c2 ∧ Hid (TS w wx (.slice A2 k c2) vs (trL ts) []))
  case first =>
   go_wp2
   go_loopg [9, 10] k (fun (gh : Nat) s9 s10 wx => ∃ (i : Nat) (A2 : Option Addr) (c2 : Nat) (vs : List Value), gh = k - i ∧ i ≤ k ∧ s10 = .int .i64 (i : Int) ∧ s9 = .slice A2 i c2 ∧ Hid (SoR w w1.heap.size wx (.slice A2 i c2) vs (trL (ts.take i))) ∧ Hid (Below w1.heap.size w1 wx))
   case atStart => exact ⟨0, none, 0, [], rfl, Nat.zero_le _, rfl, rfl, SoR.nil _ _ _, Below.refl _ _⟩
   case round =>
     clear CN
     obtain ⟨i, A2, c2, vs, rfl, hi, rfl, rfl, HT, HW⟩ := hrel
     by_cases hlt : i < k
     · have HLT := Lib.hid hlt
       have t1 : (i : Int) < (n : Int) := by omega
       have t2 : (i : Int) < 20 := by omega
       have t3 : (0 : Int) ≤ (i : Int) := by omega
       obtain ⟨A0, c0, ev, _, hcs⟩ := HS.out
       rw [HN.out.1] at ev
       cases ev
       obtain ⟨g, o, rfl, hfr, hcl⟩ := hcs (by have := HN.out; omega)
       obtain ⟨lb, hlb⟩ : ∃ x, ts[i]? = some x := ⟨_, List.getElem?_eq_getElem (by have := HN.out; omega)⟩
       obtain ⟨u, hcu0, hbu⟩ := hcl i lb hlb
       obtain ⟨A5, q5, c5, rfl⟩ : ∃ A n c, u = .slice A n c := by obtain ⟨A, c, e, _⟩ := hbu; exact ⟨A, _, c, e⟩
       have hlen5 := hbu.len
       obtain ⟨m, hm⟩ : ∃ m, min q5 40 = m := ⟨_, rfl⟩
       have hi1 : (if (40 : Int) < (q5 : Int) then (40 : Int) else (q5 : Int)) = (m : Int) := by split <;> omega
       have hi2 : min (q5 : Int) 40 = (m : Int) := by omega
       have hs := Fr.slice_to A5 q5 c5 m (by omega)
       have htk := hbu.take m (by omega)
       have htl : lb.take m = lb.take 40 := by
         by_cases h5 : q5 ≤ 40
         · rw [List.take_of_length_le (by omega), List.take_of_length_le (by omega)]
         · rw [show m = 40 by omega]
       rw [htl] at htk
       have hlen : (trL (ts.take i)).length = i := by rw [trL_len, List.length_take]; have := HN.out; omega
       have hd : Below wr.heap.size wr wr.drew := (Below.refl _ _).drew
       obtain ⟨A7, c7, W7, hr7, hs7, hb7⟩ := HT.out.app (W1 := wr.drew) htk hd HW.out.size (by omega)
       rw [← trL_step (by omega) hlb] at hs7
       rw [hlen] at hr7 hs7
       have HR7 := Lib.hid hr7
       have HS7 := Lib.hid hs7
       have HB7 := Lib.hid (HW.out.trans hb7)
       have hww : Below w.heap.size w wr := K1.out.trans (HW.out.mono K1.out.size)
       have hw7 : Below w.heap.size w W7 := K1.out.trans (HB7.out.mono K1.out.size)
       have hcell : ∀ W, Below w.heap.size w W → W.cell? ⟨g, o + i, none⟩ = some (.slice A5 q5 c5) := fun W hW => (hW.cell (p := ⟨g, o + i, none⟩) hfr.1).trans hcu0
       have a1 := hcell wr.drew hww.drew
       have a2 := hcell (wr.alloc (.cells #[.slice A5 m c5] 37)).drew ((hww.alloc hww.size _).drew)
       have a3 := hcell W7 hw7
       have e1 : IntKind.i64.wrap ((i : Int) + 1) = ((i + 1 : Nat) : Int) := by rw [IntKind.wrap_i64]; omega
       clear hcell hww hw7 hr7 hs7 hb7 hcu0 hbu hlb hcl hfr hcs hlen htk htl hd hlen5 hlt
       go_upto_region 8 with fail
       go_region_held3 (fun w' => w'.cell? ⟨g, o + i, none⟩ = some (.slice A5 q5 c5))
         (first | with_reducible exact a1 | with_reducible exact a2 | with_reducible exact a3)
         (first
           | (refine step_app_run _ (by rfl) (.tmp 39) (.tmp 51) 33 33 (by rfl) _ _ (by rfl) (by rfl) (.slice A7 (i + 1) c7) W7 (HR7.out _) ?_)
           | fail)
       all_goals
         go_wp2
         go_roundg (k - (i + 1))
         case measure => have := HLT.out; omega
         case rel => exact ⟨i + 1, A7, c7, _, rfl, HLT.out, by first | rfl | go_num, rfl, HS7, HB7⟩
     · obtain rfl : i = k := by omega
       obtain ⟨g1, cp1, arr1, bs1, n1⟩ := N1.out
       have hr := HT.out
       rw [trL_all (ts := ts) (by have := HN.out; omega)] at hr
       have T2 : Hid (TS w wr (.slice A2 i c2) vs (trL ts) []) := ⟨⟨g1, cp1, arr1, bs1, n1.below HW.out⟩, ⟨own_mono hr.own K1.out.size, hr.len, hr.at_⟩, K1.out.trans (HW.out.mono K1.out.size)⟩
       clear n1 hr hlt
       by_cases hnn : i < n
       · have t1 : (i : Int) < (n : Int) := by omega
         have t2 : ¬ (i : Int) < 20 := by have := HN.out; omega
         clear hnn
         go_wp2
         go_meet
         exact ⟨A2, c2, vs, rfl, T2⟩
       · have t1 : ¬ (i : Int) < (n : Int) := by omega
         clear hnn
         go_wp2
         go_meet
         exact ⟨A2, c2, vs, rfl, T2⟩
  case rest =>
   clear N1 K1
   obtain ⟨A9, c9, vs, rfl, T2⟩ := hcut
   obtain ⟨M, hM⟩ : ∃ M, M = trL ts := ⟨_, rfl⟩
   have hMl : M.length = k := by rw [hM, trL_len]; have := HN.out; omega
   have hM40 : ∀ t ∈ M, t.length ≤ 40 := fun t ht => by
     rw [hM] at ht
     unfold trL at ht
     obtain ⟨t', _, rfl⟩ := List.mem_map.1 ht
     rw [List.length_take]; omega
   rw [← hM] at T2
   have hMb : ∀ t ∈ M, bok t := fun t ht => by
     obtain ⟨j, hj⟩ := List.mem_iff_getElem?.1 ht
     obtain ⟨_, _, _, _, _, _, _, _, h5, _⟩ := T2.out.row.get T2.out.bel hj
     exact h5.bok
   have HM : Hid (M.length = k ∧ (∀ t ∈ M, t.length ≤ 40) ∧ (∀ t ∈ M, bok t)) := ⟨hMl, hM40, hMb⟩
   clear hM hMl hM40 hMb HS HN hk1
   go_upto_block 2 with (first
     | (go_at_call 12; (with_reducible refine (T2.out.send A9 k c9 rfl HM.out.1 (by omega)).mono ?_); rintro e w3 ⟨rfl, t3⟩
        have T3 := Lib.hid t3
        clear t3))
   go_cut [11] from 56 to 65 (fun _ wx => Hid (TS w wx (.slice A9 k c9) vs M (news M)))
   case first =>
     clear T2
     have T4 : Hid (TS w w3 (.slice A9 k c9) vs M ((news M).drop 0 ++ (news M).take 0)) := by
       show TS _ _ _ _ _ _
       rw [List.drop_zero, List.take_zero, List.append_nil]; exact T3.out
     go_wp2
     go_loopg [11] k (fun (gh : Nat) s11 wx => ∃ i : Nat, gh = k - i ∧ i ≤ k ∧ s11 = .int .i64 (i : Int) ∧ Hid (TS w wx (.slice A9 k c9) vs M ((news M).drop i ++ (news M).take i)))
     case atStart => exact ⟨0, rfl, Nat.zero_le _, rfl, T4⟩
     case round =>
       clear T4 T3
       obtain ⟨i, rfl, hi, rfl, HT⟩ := hrel
       by_cases hlt : i < k
       · have t1 : (i : Int) < (k : Int) := by omega
         have e1 : IntKind.i64.wrap ((i : Int) + 1) = ((i + 1 : Nat) : Int) := by rw [IntKind.wrap_i64]; omega
         obtain ⟨x, r, hx, hr⟩ := rot_step (l := news M) (i := i) (by rw [news_len]; have := HM.out.1; omega)
         rw [hx] at HT
         have HQ := Lib.hid HT.out.turn
         rw [hr] at HQ
         clear hx hr
         go_wp2_with (first
           | (go_at_call 16; (with_reducible refine HQ.out.mono ?_); rintro e w4 ⟨rfl, t4⟩; have T4 := Lib.hid t4; clear t4))
         go_roundg (k - (i + 1))
         case measure => omega
         case rel => exact ⟨i + 1, rfl, hlt, by first | rfl | go_num, T4⟩
       · obtain rfl : i = k := by omega
         have t1 : ¬ (i : Int) < (i : Int) := by omega
         have hfin : (news M).drop i ++ (news M).take i = news M := by
           rw [List.drop_of_length_le (by rw [news_len]; have := HM.out.1; omega), List.take_of_length_le (by rw [news_len]; have := HM.out.1; omega)]; rfl
         rw [hfin] at HT
         clear hfin hlt
         go_wp2
         go_meet
         exact HT
   case rest =>
   clear T2 T3
   have T5 := hcut
   clear hcut
   go_upto_block 4 with (first
     | (go_at_call 24; (with_reducible refine T5.out.all.mono ?_); rintro e w5 ⟨u5, rfl, ⟨us5, hb5⟩, t6⟩
        rw [bys_news HM.out.2.2] at hb5
        obtain ⟨A6, q6, hu6, hq6⟩ := own_form hb5.own
        rw [hb5.len, HM.out.1] at hu6
        subst hu6
        have BX := Lib.hid hb5
        have T6 := Lib.hid t6
        clear hb5 t6 hq6))
   go_cut [13] from 67 to 83 (fun _ wx => Hid (TS w wx (.slice A9 k c9) vs M (news M)))
   case first =>
     clear T5
     go_wp2
     go_loopg [13] k (fun (gh : Nat) s13 wx => ∃ i : Nat, gh = k - i ∧ i ≤ k ∧ s13 = .int .i64 (i : Int) ∧ Hid (Below w5.heap.size w5 wx))
     case atStart => exact ⟨0, rfl, Nat.zero_le _, rfl, Below.refl _ _⟩
     case round =>
       obtain ⟨i, rfl, hi, rfl, HW⟩ := hrel
       by_cases hlt : i < k
       · have t1 : (i : Int) < (k : Int) := by omega
         have t2 : (0 : Int) ≤ (i : Int) := by omega
         have e1 : IntKind.i64.wrap ((i : Int) + 1) = ((i + 1 : Nat) : Int) := by rw [IntKind.wrap_i64]; omega
         obtain ⟨mi, hmi⟩ : ∃ x, M[i]? = some x := ⟨_, List.getElem?_eq_getElem (by have := HM.out.1; omega)⟩
         obtain ⟨g1, c1, B1, k1, hv1, hc1, hw1⟩ := BX.out.get hmi
         obtain ⟨g2, c2, B2, q2, k2, hv2, _, hc2, hw2, _⟩ := T6.out.row.get T6.out.bel hmi
         rw [HM.out.1] at hv1 hv2
         simp only [Value.slice.injEq, true_and] at hv1 hv2
         obtain ⟨rfl, rfl⟩ := hv1
         obtain ⟨rfl, rfl⟩ := hv2
         have hm40 := HM.out.2.1 mi (List.mem_of_getElem? hmi)
         have hsame : ∀ W, Below w5.heap.size w5 W → Calls Try.prog 15 #[.slice B1 mi.length k1, .slice B2 q2 k2] W fun e w' => e = .returned (.bool true) ∧ Below W.heap.size W w' := fun W hW => Fr.same_eq W _ _ mi (hw1.below hW).bat ((hw2.old (T6.out.bel.trans (hW.mono T6.out.bel.size))).bat) (by omega)
         have HSM := Lib.hid hsame
         have hcc : ∀ W, Below w5.heap.size w5 W → W.cell? ⟨g1, i, none⟩ = some (.slice B1 mi.length k1) ∧ W.cell? ⟨g2, i, none⟩ = some (.slice B2 q2 k2) := fun W hW => ⟨(hW.cell (p := ⟨g1, i, none⟩) (World.block_lt_of_cell? _ _ hc1)).trans hc1, (hW.cell (p := ⟨g2, i, none⟩) (World.block_lt_of_cell? _ _ hc2)).trans hc2⟩
         have HCC := Lib.hid hcc
         have a1 := hcc wr.drew HW.out.drew
         clear hsame hcc hc1 hc2 hw1 hw2 hm40 hmi
         go_upto_region 19 with fail
         go_region_held3 (fun w' => w'.cell? ⟨g1, i, none⟩ = some (.slice B1 mi.length k1) ∧ w'.cell? ⟨g2, i, none⟩ = some (.slice B2 q2 k2))
           (first | exact a1 | exact a2)
           (first
             | (go_at_call 15; (with_reducible refine (HSM.out _ HW.out.drew).mono ?_); rintro e w6 ⟨rfl, k6⟩; have K6 : Hid (Below w5.heap.size w5 w6) := HW.out.trans (Below.trans (Below.refl _ _).drew k6 |>.mono HW.out.size); have a2 := HCC.out _ K6.out; clear k6)
             | fail)
         all_goals
           go_wp2
           go_roundg (k - (i + 1))
           case measure => omega
           case rel => exact ⟨i + 1, rfl, hlt, by first | rfl | go_num, K6⟩
       · obtain rfl : i = k := by omega
         have t1 : ¬ (i : Int) < (i : Int) := by omega
         go_wp2
         go_meet
         exact T6.out.below HW.out
   case rest =>
   clear T5 T6 BX
   have T7 := hcut
   clear hcut
   by_cases hk0 : k = 0
   · subst hk0
     have hM0 : M = [] := List.eq_nil_of_length_eq_zero HM.out.1
     rw [hM0] at T7
     have T8 : Hid (TS w _ (.slice A9 0 c9) vs [] []) := T7
     have HD : Hid (∀ W, TS w W (.slice A9 0 c9) vs [] [] → Calls Try.prog 20 #[.pointer (some ⟨w.heap.size, 0, none⟩), .int .i64 0] W fun e w' => e = .returned (.int .i64 13) ∧ TS w w' (.slice A9 0 c9) vs [] []) := fun W hW => hW.double0
     have HE : Hid (∀ W, TS w W (.slice A9 0 c9) vs [] [] → Calls Try.prog 22 #[.pointer (some ⟨w.heap.size, 0, none⟩), .int .i64 0, .int .i64 a, .int .u8 b] W fun e w' => e = .returned (.int .i64 13) ∧ TS w w' (.slice A9 0 c9) vs [] []) := fun W hW => hW.bend0 a b HB.out
     clear T7 hM0
     go_wp2_with (first
       | (go_at_call 10; refine (known_any _).mono ?_; rintro e wa ⟨rfl, ka⟩; have TA := Lib.hid (T8.out.below ka); clear ka)
       | (go_at_call 20; (with_reducible refine (HD.out _ TA.out).mono ?_); rintro e wb ⟨rfl, tb⟩; have TB := Lib.hid tb; clear tb)
       | (go_at_call 22; (with_reducible refine (HE.out _ TB.out).mono ?_); rintro e wd ⟨rfl, td⟩; have TD := Lib.hid td; clear td))
     go_ret
     exact ⟨rfl, TD.out.bel⟩
   · have tk : ¬ (k : Int) = 0 := by omega
     obtain ⟨m0, mr, rfl⟩ : ∃ m0 mr, M = m0 :: mr := by
       cases M with
       | nil => have := HM.out.1; simp at this; omega
       | cons m0 mr => exact ⟨m0, mr, rfl⟩
     obtain ⟨hl0, hM40, hMb⟩ := HM.out
     have hm40 := hM40 m0 (List.mem_cons_self ..)
     have hmb := hMb m0 (List.mem_cons_self ..)
     have hsx : (strOf m0).size = m0.length := strOf_len m0
     have hsz : ∀ y ∈ news (m0 :: mr) ++ [(strOf m0, false)], y.1.size ≤ 2000000 := fun y hy => by
       have h1 : ∀ t ∈ m0 :: mr, (strOf t).size ≤ 2000000 := fun t ht => by rw [strOf_len]; have := hM40 t ht; omega
       rcases List.mem_append.1 hy with h2 | h2
       · obtain ⟨t, ht, rfl⟩ := List.mem_map.1 h2
         exact h1 t ht
       · rw [List.mem_singleton.1 h2]; exact h1 m0 (List.mem_cons_self ..)
     have hlr : mr.length + 1 = k := by simpa using hl0
     have HD : Hid (∀ W, TS w W (.slice A9 k c9) vs (m0 :: mr) (news (m0 :: mr)) → Calls Try.prog 20 #[.pointer (some ⟨w.heap.size, 0, none⟩), .int .i64 0] W fun e w' => e = .returned (.int .i64 0) ∧ TS w w' (.slice A9 k c9) vs (m0 :: mr) (news (m0 :: mr) ++ [(strOf m0, false)])) := fun W hW => TS.double (x := (strOf m0, false)) (r := news mr) hW (by simp [news]; omega)
     have HL : Hid (∀ W, TS w W (.slice A9 k c9) vs (m0 :: mr) (news (m0 :: mr) ++ [(strOf m0, false)]) → Calls Try.prog 26 #[.pointer (some ⟨w.heap.size, 0, none⟩), .int .i64 0] W fun e w' => e = .returned (.int .i64 ((k + 1 : Nat) : Int)) ∧ TS w w' (.slice A9 k c9) vs (m0 :: mr) (news (m0 :: mr) ++ [(strOf m0, false)])) := fun W hW => by
       have := hW.len
       rwa [show (news (m0 :: mr) ++ [(strOf m0, false)]).length = k + 1 by simp [news]; omega] at this
     obtain ⟨E, hE⟩ : ∃ E, E = pbE (strOf m0, false) a b := ⟨_, rfl⟩
     obtain ⟨L2, hL2⟩ : ∃ L2, L2 = if E = 0 then news mr ++ [(strOf m0, false)] ++ [pbV (strOf m0, false) a b] else news (m0 :: mr) ++ [(strOf m0, false)] := ⟨_, rfl⟩
     have HBD : Hid (∀ W, TS w W (.slice A9 k c9) vs (m0 :: mr) (news (m0 :: mr) ++ [(strOf m0, false)]) → Calls Try.prog 22 #[.pointer (some ⟨w.heap.size, 0, none⟩), .int .i64 0, .int .i64 a, .int .u8 b] W fun e w' => e = .returned (.int .i64 E) ∧ TS w w' (.slice A9 k c9) vs (m0 :: mr) L2) := fun W hW => by
       have := TS.bend (x := (strOf m0, false)) (r := news mr ++ [(strOf m0, false)]) hW a b HB.out hsz
       rw [← hE] at this
       rw [hL2]; exact this
     have HEE : Hid (E = pbE (strOf m0, false) a b ∧ L2 = if E = 0 then news mr ++ [(strOf m0, false)] ++ [pbV (strOf m0, false) a b] else news (m0 :: mr) ++ [(strOf m0, false)]) := ⟨hE, hL2⟩
     have HX : Hid (m0.length ≤ 40 ∧ bok m0 ∧ (strOf m0).size = m0.length ∧ mr.length + 1 = k) := ⟨hm40, hmb, hsx, hlr⟩
     have tk3 : (0 : Int) < (k : Int) := by omega
     have tk4 : 0 < k := by omega
     have e1 : IntKind.i64.wrap ((k : Int) + 1) = ((k + 1 : Nat) : Int) := by rw [IntKind.wrap_i64]; omega
     clear hl0 hM40 hMb hm40 hmb hsx hsz hlr hE hL2
     go_upto_region 26 with (first
       | (go_at_call 20; (with_reducible refine (HD.out _ T7.out).mono ?_); rintro e wb ⟨rfl, tb⟩; have TB := Lib.hid tb; clear tb)
       | (go_at_call 26; (with_reducible refine (HL.out _ TB.out).mono ?_); rintro e wd ⟨rfl, td⟩; have TD := Lib.hid td; clear td)
       | (go_at_call 22; (with_reducible refine (HBD.out _ TD.out).mono ?_); rintro e we ⟨rfl, te⟩; have TE := Lib.hid te; clear te))
     obtain ⟨gm, cm, Bm, qm, km, hv2, _, hc2, hw2, _⟩ := TE.out.row.get TE.out.bel (j := 0) (l := m0) rfl
     rw [HM.out.1] at hv2
     simp only [Value.slice.injEq, true_and] at hv2
     obtain ⟨rfl, rfl⟩ := hv2
     have hqm := hw2.len.1
     obtain ⟨qm, rfl⟩ : ∃ q, q = qm := ⟨_, rfl⟩
     have HV := Lib.hid (TE.out.row.vof (j := 0) (by simp) hc2)
     have HW2 := Lib.hid hw2
     have HQ : Hid (m0.length = qm) := hqm
     have hqx := HX.out.2.2.1
     go_cut [15] from 114 to 128 (fun s15 wx => s15 = .bool (decide (E = 0)) ∧ Hid (TS w wx (.slice (some ⟨gm, 0, none⟩) k c9) vs (m0 :: mr) L2) ∧ Hid (wx.cell? ⟨gm, 0, none⟩ = some (.slice Bm qm km)))
     case first =>
       have HC2 := Lib.hid hc2
       by_cases h1 : b = 0
       · have hE1 : E = 1 := by rw [HEE.out.1]; unfold pbE; rw [if_pos (.inl h1)]
         have hdE : decide (E = 0) = false := by rw [hE1]; rfl
         have HDE := Lib.hid hdE
         clear hE1 hdE hqx hqm
         go_wp2
         go_meet
         exact ⟨by rw [HDE.out], TE, HC2⟩
       · by_cases h2 : a < 0
         · have hE1 : E = 1 := by rw [HEE.out.1]; unfold pbE; rw [if_pos (.inr (.inl h2))]
           have hdE : decide (E = 0) = false := by rw [hE1]; rfl
           have HDE := Lib.hid hdE
           have h3 : ¬ 0 ≤ a := by omega
           clear hE1 hdE hqx hqm
           go_wp2
           go_meet
           exact ⟨by rw [HDE.out], TE, HC2⟩
         · have h3 : 0 ≤ a := by omega
           by_cases h4 : a < (qm : Int)
           · have hE1 : E = 0 := by
               rw [HEE.out.1]; unfold pbE
               rw [if_neg (by simp only; omega), if_neg (by simp)]
             have hdE : decide (E = 0) = true := by rw [hE1]; rfl
             have HDE := Lib.hid hdE
             clear hE1 hdE hqx hqm
             go_wp2
             go_meet
             exact ⟨by rw [HDE.out]; simp [h1], TE, HC2⟩
           · have hE1 : E = 1 := by rw [HEE.out.1]; unfold pbE; rw [if_pos (by simp only; omega)]
             have hdE : decide (E = 0) = false := by rw [hE1]; rfl
             have HDE := Lib.hid hdE
             clear hE1 hdE hqx hqm
             go_wp2
             go_meet
             exact ⟨by rw [HDE.out], TE, HC2⟩
     case rest =>
     obtain ⟨rfl, TF, HC3⟩ := hcut
     clear TE TD TB HL HD HBD hc2
     have hlen2 : (bys L2).length = k + 1 := by
       rw [bys_len, HEE.out.2]
       have := HX.out.2.2.2
       split <;> simp [news] <;> omega
     obtain ⟨z, hz⟩ : ∃ z, z = if E = 0 then Fr.bend m0 a b else m0 := ⟨_, rfl⟩
     have hsm : sb (strOf m0) = m0 := sb_strOf HX.out.2.1
     have hnl : (bys (news mr)).length + 1 = k := by rw [bys_len, news_len]; exact HX.out.2.2.2
     have hL2 : bys L2 = (if E = 0 then bys (news mr) ++ [m0] else bys (news (m0 :: mr))) ++ [z] := by
       rw [HEE.out.2, hz]
       by_cases h0 : E = 0
       · rw [if_pos h0, if_pos h0, if_pos h0]
         have hp : pbV (strOf m0, false) a b = (strOf (Fr.bend (sb (strOf m0)) a b), true) := by unfold pbV; rw [if_pos (by rw [← HEE.out.1]; exact h0)]
         rw [hp, hsm]
         simp only [bys, List.map_append, List.map_cons, List.map_nil, hsm]
         rw [sb_strOf (Fr.bend_bok HX.out.2.1 a HB.out)]
       · rw [if_neg h0, if_neg h0, if_neg h0]
         simp only [bys, List.map_append, List.map_cons, List.map_nil, hsm]
     have hk1 : (bys L2)[k]? = some z := by
       rw [hL2]
       have : (if E = 0 then bys (news mr) ++ [m0] else bys (news (m0 :: mr))).length = k := by
         split
         · rw [List.length_append, List.length_singleton]; exact hnl
         · rw [bys_len, news_len]; exact HM.out.1
       rw [List.getElem?_append_right (by omega), this, Nat.sub_self]; rfl
     have hk2' : E = 0 → (bys L2)[k - 1]? = some m0 := fun h0 => by
       rw [hL2, if_pos h0, List.append_assoc, List.getElem?_append_right (by omega), show k - 1 - (bys (news mr)).length = 0 by omega]; rfl
     have HZ : Hid ((bys L2).length = k + 1 ∧ (bys L2)[k]? = some z ∧ (E = 0 → (bys L2)[k - 1]? = some m0) ∧ z = if E = 0 then Fr.bend m0 a b else m0) := ⟨hlen2, hk1, hk2', hz⟩
     clear hlen2 hz hsm hnl hL2 hk1 hk2' hqx hqm hw2
     have e8 : IntKind.i64.wrap (((k + 1 : Nat) : Int) - 1) = (k : Int) := by rw [IntKind.wrap_i64]; omega
     have e8b : IntKind.i64.wrap ((k : Int) + 1 - 1) = (k : Int) := by rw [IntKind.wrap_i64]; omega
     have tk2 : (k : Int) < ((k + 1 : Nat) : Int) := by omega
     have tk2b : (k : Int) < (k : Int) + 1 := by omega
     go_upto_block 6 with (first
       | (go_at_call 24; (with_reducible refine TF.out.all.mono ?_); rintro e wy ⟨uy, rfl, ⟨usy, hby⟩, ty⟩
          obtain ⟨gy, cy, By, ky, huy, hcy, hwy⟩ := hby.get HZ.out.2.1
          rw [HZ.out.1] at huy
          subst huy
          have HY := Lib.hid hby
          have HCY := Lib.hid hcy
          have HWY := Lib.hid hwy
          have TY := Lib.hid ty
          clear hby hwy ty))
     obtain ⟨Z, hZ⟩ : ∃ Z, Z = z.length := ⟨_, rfl⟩
     rw [← hZ] at HCY HWY hcy ⊢
     have HZL := Lib.hid hZ
     have HCM : Hid (∀ W, TS w W (.slice (some ⟨gm, 0, none⟩) k c9) vs (m0 :: mr) L2 → W.cell? ⟨gm, 0, none⟩ = some (.slice Bm qm km)) := fun W hW => hW.row.cellv HV.out
     clear hZ hcy
     by_cases hE0 : E = 0
     · have hdE : decide (E = 0) = true := by rw [hE0]; rfl
       rw [hdE]
       have hin : ¬ b = 0 ∧ 0 ≤ a ∧ a < (m0.length : Int) := by
         have h1 := HEE.out.1
         rw [hE0] at h1
         unfold pbE at h1
         by_cases h2 : b = 0 ∨ a < 0 ∨ (((strOf m0, false) : V).1.size : Int) ≤ a
         · rw [if_pos h2] at h1; cases h1
         · simp only [HX.out.2.2.1] at h2; omega
       have hz2 := HZ.out.2.2.2
       rw [if_pos hE0] at hz2
       have hZ2 : Z = qm := by rw [HZL.out, hz2, Fr.bend_len]; exact HQ.out
       subst hZ2
       obtain ⟨na, hna⟩ : ∃ na : Nat, a = (na : Int) := ⟨a.toNat, by omega⟩
       have HIN : Hid (¬ b = 0 ∧ na < m0.length ∧ z = Fr.bend m0 (na : Int) b) := ⟨hin.1, by omega, by rw [hz2, hna]⟩
       subst hna
       have HE0 := Lib.hid hE0
       clear hin hz2 hdE hE0
       go_cut [18] from 136 to 160 (fun _ wx => Hid (Below wy.heap.size wy wx))
       case first =>
         go_wp2
         go_loopg [18] Z (fun (gh : Nat) s18 wx => ∃ i : Nat, gh = Z - i ∧ i ≤ Z ∧ s18 = .int .i64 (i : Int) ∧ Hid (Below wy.heap.size wy wx))
         case atStart => exact ⟨0, rfl, Nat.zero_le _, rfl, Below.refl _ _⟩
         case round =>
           obtain ⟨i, rfl, hi, rfl, HW⟩ := hrel
           by_cases hlt : i < Z
           · have t1 : (i : Int) < (Z : Int) := by omega
             have t2 : (0 : Int) ≤ (i : Int) := by omega
             have e9 : IntKind.i64.wrap ((i : Int) + 1) = ((i + 1 : Nat) : Int) := by rw [IntKind.wrap_i64]; have := HX.out.1; have := HQ.out; omega
             have hwd : Below wy.heap.size wy wr.drew := HW.out.drew
             have htd := TY.out.below hwd
             obtain ⟨A3, c3, e3, _, _, hp3⟩ := HW2.out.old htd.bel
             obtain ⟨g3, o3, rfl, hf3, hc3⟩ := hp3 (by have := HQ.out; omega)
             simp only [Value.slice.injEq] at e3
             obtain ⟨rfl, -, -⟩ := e3
             obtain ⟨A4, c4, e4, _, hp4⟩ := (HWY.out.below hwd).bat
             obtain ⟨g4, o4, rfl, _, hc4⟩ := hp4 (by rw [← HZL.out]; omega)
             simp only [Value.slice.injEq] at e4
             obtain ⟨rfl, -, -⟩ := e4
             have d1 := hc4 i (by rw [← HZL.out]; omega)
             have d2 := HCM.out _ htd
             have d3 := hc3 i (by have := HQ.out; omega)
             rw [HIN.out.2.2, bend_get _ _ _ _ HIN.out.2.1] at d1
             obtain ⟨y, hy⟩ : ∃ y, y = m0.getD i 0 := ⟨_, rfl⟩
             rw [← hy] at d1 d3
             have hyb := Fr.bok_at HX.out.2.1 (i := i) (by have := HQ.out; omega)
             rw [← hy] at hyb
             have HLT := Lib.hid hlt
             by_cases hia : i = na
             · subst hia
               rw [if_pos rfl] at d1
               obtain ⟨y2, hy2⟩ : ∃ y2, y2 = Fr.xb y b := ⟨_, rfl⟩
               have hne : ¬ y2 = y := by rw [hy2]; exact Fr.xb_ne hyb.1 HB.out.1 HIN.out.1
               rw [← hy2] at d1
               have hne1 : (y2 == y) = false := by simpa using hne
               have hne2 : (y2 != y) = true := by simpa using hne
               clear hy hy2 hc4 hc3 hf3 hp3 hp4 hwd htd hyb hlt
               go_upto_region 32 with fail
               go_region_held3 (fun w' => w'.cell? ⟨g4, o4 + i, none⟩ = some (.int .u8 y2) ∧ w'.cell? ⟨gm, 0, none⟩ = some (.slice (some ⟨g3, o3, none⟩) Z km) ∧ w'.cell? ⟨g3, o3 + i, none⟩ = some (.int .u8 y))
                 (first | exact ⟨d1, d2, d3⟩) (fail)
               all_goals
                 go_wp2
                 go_roundg (Z - (i + 1))
                 case measure => have := HLT.out; omega
                 case rel => exact ⟨i + 1, rfl, HLT.out, by first | rfl | go_num, HW.out.drew⟩
             · rw [if_neg hia] at d1
               have t4 : ¬ (i : Int) = (na : Int) := by omega
               clear hy hc4 hc3 hf3 hp3 hp4 hwd htd hyb hlt hia
               go_upto_region 32 with fail
               go_region_held3 (fun w' => w'.cell? ⟨g4, o4 + i, none⟩ = some (.int .u8 y) ∧ w'.cell? ⟨gm, 0, none⟩ = some (.slice (some ⟨g3, o3, none⟩) Z km) ∧ w'.cell? ⟨g3, o3 + i, none⟩ = some (.int .u8 y))
                 (first | exact ⟨d1, d2, d3⟩) (fail)
               all_goals
                 go_wp2
                 go_roundg (Z - (i + 1))
                 case measure => have := HLT.out; omega
                 case rel => exact ⟨i + 1, rfl, HLT.out, by first | rfl | go_num, HW.out.drew⟩
           · obtain rfl : i = Z := by omega
             have t1 : ¬ (i : Int) < (i : Int) := by omega
             clear hlt
             go_wp2
             go_meet
             exact HW
       case rest =>
       have TW := Lib.hid (TY.out.below hcut.out)
       obtain ⟨g5, c5, A5, k5, hv5, hc5, hw5⟩ := HY.out.get (HZ.out.2.2.1 HE0.out)
       simp only [Value.slice.injEq] at hv5
       obtain ⟨hg5, -, -⟩ := hv5
       have hg6 : gy = g5 := by cases hg5; rfl
       subst hg6
       have y0 : ∀ q : InW wc, q.val.cell? ⟨gy, k - 1, none⟩ = some (.slice A5 m0.length k5) := fun q => q.cell ((hcut.out.cell (p := ⟨gy, k - 1, none⟩) (World.block_lt_of_cell? _ _ hc5)).trans hc5)
       have y1 : ∀ q : InW wc, q.val.cell? ⟨gm, 0, none⟩ = some (.slice Bm Z km) := fun q => q.cell (HCM.out _ TW.out)
       have CK : Hid (∀ q : InW wc, Calls Try.prog 10 #[] q.val fun e w' => e = .returned (.bool true) ∧ ∃ q : InW wc, w' = q.val) := fun q => calls_in (known_any _)
       have CS : Hid (∀ q : InW wc, Calls Try.prog 15 #[.slice A5 m0.length k5, .slice Bm Z km] q.val fun e w' => e = .returned (.bool true) ∧ ∃ q : InW wc, w' = q.val) := fun q => calls_in (Fr.same_eq q.val _ _ m0 ((hw5.below hcut.out).below q.bel).bat ((HW2.out.old TW.out.bel).ch (.of_below q.bel)).bat (by have := HX.out.1; omega))
       have e5 : IntKind.i64.wrap ((k : Int) + 1 - 2) = ((k - 1 : Nat) : Int) := by rw [IntKind.wrap_i64]; omega
       have e6 : IntKind.i64.wrap (((k + 1 : Nat) : Int) - 2) = ((k - 1 : Nat) : Int) := by rw [IntKind.wrap_i64]; omega
       have tk5 : ((k - 1 : Nat) : Int) < (k : Int) + 1 := by omega
       have tk6 : (0 : Int) ≤ ((k - 1 : Nat) : Int) := by omega
       have hEz := HE0.out
       subst hEz
       clear hcut hc5 hw5 hg5
       go_upto_region 34 with fail
       refine wp_region_below (W := wc) (by kernel_rfl) (by kernel_rfl) (Below.refl _ _) ?_
       repeat (go_big_quiet_step ((first | (go_at_call 10; exact CK.out _) | (go_at_call 15; exact CS.out _))))
       refine wpQuiet_nil ?_
       rintro _ ⟨pq, rfl⟩
       obtain ⟨wq, hbq⟩ := pq
       try dsimp only
       go_wp2
       go_ret
       exact ⟨rfl, TW.out.bel.trans (hbq.mono TW.out.bel.size)⟩
     · have hdE : decide (E = 0) = false := by simp [hE0]
       rw [hdE]
       go_cut [18] from 136 to 160 (fun _ wx => Hid (TS w wx (.slice (some ⟨gm, 0, none⟩) k c9) vs (m0 :: mr) L2))
       case first =>
         go_wp2
         refine wp_loop_rounds 1 ?_
         rw [rounds_succ]
         rcases Nat.eq_zero_or_pos Z with h0 | h0
         · have t1 : ¬ (0 : Int) < (Z : Int) := by omega
           clear h0
           go_wp2
           go_meet
           exact TY
         · have t1 : (0 : Int) < (Z : Int) := by omega
           clear h0
           go_wp2
           go_meet
           exact TY
       case rest =>
       have TW := hcut
       have hEb : (E == 0) = false := by simpa using hE0
       clear hcut
       have CK : Hid (∀ q : InW wc, Calls Try.prog 10 #[] q.val fun e w' => e = .returned (.bool true) ∧ ∃ q : InW wc, w' = q.val) := fun q => calls_in (known_any _)
       go_upto_region 34 with fail
       refine wp_region_below (W := wc) (by kernel_rfl) (by kernel_rfl) (Below.refl _ _) ?_
       repeat (go_big_quiet_step ((first | (go_at_call 10; exact CK.out _))))
       refine wpQuiet_nil ?_
       rintro _ ⟨pq, rfl⟩
       obtain ⟨wq, hbq⟩ := pq
       try dsimp only
       go_wp2
       go_ret
       exact ⟨rfl, TW.out.bel.trans (hbq.mono TW.out.bel.size)⟩
end Go.Proofs.Ytnekjbdogdghnaa.Ne
