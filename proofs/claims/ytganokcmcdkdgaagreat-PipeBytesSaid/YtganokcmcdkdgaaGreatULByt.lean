/-
  The law PipeBytes. Conditions: none beyond the parameters' own types.
-/
import Derived.Test.YtganokcmcdkdgaaGreatPZ19
import Derived.Test.YtganokcmcdkdgaaGreatPZ22
namespace Go.Proofs.YtganokcmcdkdgaaGreat.Pi
open Go.RowKit Fr

theorem prod5 {k f t n k' f' t' n' : Int} {x x' : List Int} (h : (k, f, t, n, x) = (k', f', t', n', x')) : k = k' ∧ f = f' ∧ t = t' ∧ n = n' ∧ x = x' := by simpa using h
theorem byte_len (er : Int) (l : List Int) : (byteF er l).2.2.length ≤ l.length := by
  unfold byteF
  split
  · cases l with
    | nil => exact Nat.le_refl _
    | cons x r => exact Nat.le_succ _
  · exact Nat.le_refl _
theorem cnt_len (most er : Int) (l : List Int) : (cntF most er l).2.2.length ≤ l.length := by
  unfold cntF
  split
  · split
    · split
      · exact Sp.rg_len
      · exact Nat.le_refl _
    · exact Nat.le_refl _
  · exact Nat.le_refl _
theorem txt_len (er : Int) (l : List Int) : (txtF er l).2.1.length ≤ l.length := by
  unfold txtF
  split
  · unfold Sp.txt
    split
    · exact Nat.zero_le _
    · split
      · exact Nat.zero_le _
      · split
        · exact Nat.zero_le _
        · show (List.take _ _).length ≤ _
          rw [List.length_take]
          have : (Oc.rg l).2.2.length ≤ l.length := Sp.rg_len
          omega
  · exact Nat.zero_le _
theorem pkV_len (G : List Int) : (pkV G).2.2.2.2.length ≤ G.length := by
  unfold pkV
  split
  · have h0 := op_len (G := G)
    have h1 := byte_len 0 (opB G)
    have h2 := byte_len (b1 (opB G)).1 (b1 (opB G)).2.2
    have h3 := byte_len (b2 (opB G)).1 (b2 (opB G)).2.2
    have h4 := cnt_len 1099511627776 (b3 (opB G)).1 (b3 (opB G)).2.2
    have h5 := txt_len (e4 (opB G)) (b4 (opB G)).2.2
    have h6 : (b5 (opB G)).2.1.length ≤ (b4 (opB G)).2.2.length := by
      unfold b5
      split
      · exact h5
      · exact Nat.zero_le _
    show (b5 (opB G)).2.1.length ≤ _
    have g1 : (b1 (opB G)).2.2.length ≤ (opB G).length := h1
    have g2 : (b2 (opB G)).2.2.length ≤ (b1 (opB G)).2.2.length := h2
    have g3 : (b3 (opB G)).2.2.length ≤ (b2 (opB G)).2.2.length := h3
    have g4 : (b4 (opB G)).2.2.length ≤ (b3 (opB G)).2.2.length := h4
    omega
  · exact Nat.zero_le _
set_option maxRecDepth 100000 in
set_option maxHeartbeats 16000000 in
theorem law_bytes (w : World) (k f t n : Int) (A : Option Addr) (q c : Nat) (l : List Int) (ok : n ≤ 9223372036854775807 ∧ BF w.heap.size w (.slice A q c) l) (B : Option Addr) (bn bc : Nat) (lb : List Int) (hw : BF w.heap.size w (.slice B bn bc) lb) :
    Calls Tryz.prog 3 #[.agg #[.int .i64 k, .int .i64 f, .int .i64 t, .int .i64 n, .slice A q c], .slice B bn bc] w fun e w' => e = .returned (.bool true) ∧ Below w.heap.size w w' := by
  obtain ⟨m, hm⟩ : ∃ m, min q 100 = m := ⟨_, rfl⟩
  obtain ⟨m3, hm3⟩ : ∃ m3, min bn 300 = m3 := ⟨_, rfl⟩
  have hqc := ok.2.1.len
  have hbc := hw.1.len
  have hx := ok.2.1.take m (by omega)
  have hy := hw.1.take m3 (by omega)
  obtain ⟨x, hxe⟩ : ∃ x, x = l.take m := ⟨_, rfl⟩
  obtain ⟨y, hye⟩ : ∃ y, y = lb.take m3 := ⟨_, rfl⟩
  have hxb : bok x := by rw [hxe]; exact bok_take ok.2.2.1 m
  have hyb : bok y := by rw [hye]; exact bok_take hw.2.1 m3
  rw [← hxe] at hx
  rw [← hye] at hy
  have hs := slice_to B bn bc m3 (by omega)
  have hi1 : (if (300 : Int) < (bn : Int) then (300 : Int) else (bn : Int)) = (m3 : Int) := by split <;> omega
  have hi2 : min (bn : Int) 300 = (m3 : Int) := by omega
  have HT := Lib.hid (fun W => to_any W k f t n A q c m hm (by omega))
  have HO := Lib.hid (fun W k f t n A q c => of_any W k f t n A q c)
  have HX : Hid (BAt w (.slice A m c) x ∧ bok x ∧ m ≤ 100 ∧ x.length = m) := ⟨hx.1, hxb, by omega, hx.2.1⟩
  have HY : Hid (BAt w (.slice B m3 bc) y ∧ bok y ∧ m3 ≤ 300 ∧ y.length = m3) := ⟨hy.1, hyb, by omega, hy.2.1⟩
  obtain ⟨z, hz⟩ : ∃ z, z = chkE k f t n m := ⟨_, rfl⟩
  obtain ⟨d, hd⟩ : ∃ d, d = pkE y := ⟨_, rfl⟩
  have HZ := Lib.hid hz
  have HD := Lib.hid hd
  have HB0 : Hid (Below w.heap.size w (w.alloc (.cells #[.int .i64 k, .int .i64 f, .int .i64 t, .int .i64 n, .slice A q c] 24))) := Lib.hid ((Below.refl _ _).alloc (Nat.le_refl _) _)
  have HEN : Hid (∀ W, Below w.heap.size w W → Calls Tryz.prog 6 #[.agg #[.int .i64 k, .int .i64 f, .int .i64 t, .int .i64 n, .slice A m c]] W fun e w' => (∃ A' q' c', e = .returned (.tuple #[.slice A' q' c', .int .i64 z]) ∧ q' = (if z = 0 then (frF (pkB k f t n x)).length else 0) ∧ BAt w' (.slice A' q' c') (if z = 0 then frF (pkB k f t n x) else [])) ∧ Below W.heap.size W w') := fun W hW => by
    have := encode_any W k f t n A m c x (HX.out.1.kept hW) HX.out.2.1 (by have := HX.out; omega)
    unfold EncR at this
    rw [← HZ.out] at this
    exact this
  have HDC : Hid (∀ W, Below w.heap.size w W → Calls Tryz.prog 7 #[.slice B m3 bc] W fun e w' => DecR W.heap.size y e w' ∧ Below W.heap.size W w') := fun W hW => decode_any W B m3 bc y (HY.out.1.kept hW) HY.out.2.1 (by have := HY.out; omega)
  have HRD : Hid (∀ W, Below w.heap.size w W → Calls Tryz.prog 8 #[.slice B m3 bc] W fun e w' => DecR W.heap.size y e w' ∧ Below W.heap.size W w') := fun W hW => rdecode_any W B m3 bc y (HY.out.1.kept hW) HY.out.2.1 (by have := HY.out; omega)
  clear hm hm3 hqc hbc hx hy hxe hye hxb hyb hz hd ok hw
  go_enter Tryz.func3, Tryz.ntmps3
  go_upto_region 7 with (first
    | (go_at_call 8; (with_reducible refine (HRD.out _ HB5b.out).mono ?_); rintro e w6 ⟨⟨k6, f6, t6, n6, A6, q6, c6, x6, rfl, hb6, hv6⟩, hbl6⟩
       obtain ⟨rfl, rfl, rfl, rfl, rfl⟩ := prod5 (hv6.trans HV5.out.symm)
       have HE6 := Lib.hid (Tb.block_kept HE2.out hbl6)
       have HE65 := Lib.hid (Tb.block_kept HE5.out hbl6)
       have HF65 := Lib.hid (HF5.out.kept hbl6)
       have HC6 := Lib.hid (HC5.out.kept hbl6)
       have hxl : x6.length ≤ 2000000 := by have h1 := pkV_len y; rw [← HV5.out] at h1; have h2 : x6.length ≤ y.length := h1; have := HY.out; omega
       have HXL := Lib.hid hxl
       clear hxl
       have HB6 := Lib.hid (HB5b.out.trans (hbl6.mono HB5b.out.size))
       have HF6 := Lib.hid hb6.1
       clear hb6 hv6 hbl6)
    | (go_at_call 7; (with_reducible refine (HDC.out _ HB4.out).mono ?_); rintro e w5 ⟨⟨k5, f5, t5, n5, A5, q5, c5, x5, rfl, hb5, hv5⟩, hbl5⟩
       have hB5 := HB4.out.trans (hbl5.mono HB4.out.size)
       have hal := Jo.alloc_below w5 (.cells #[.int .i64 k5, .int .i64 f5, .int .i64 t5, .int .i64 n5, .slice A5 q5 c5] 25)
       have HB5b := Lib.hid (hB5.trans (hal.mono hB5.size))
       have HE5 := Lib.hid (Tb.block_new w5 (.cells #[.int .i64 k5, .int .i64 f5, .int .i64 t5, .int .i64 n5, .slice A5 q5 c5] 25))
       have HF5 := Lib.hid (hb5.1.kept hal)
       have HV5 := Lib.hid hv5
       have HE2 := Lib.hid (Tb.block_kept (Tb.block_kept HE4.out hbl5) hal)
       have HC5 := Lib.hid ((HC4.out.kept hbl5).kept hal)
       clear hb5 hv5 hbl5 hB5 hal)
    | (go_at_call 6; (with_reducible refine (HEN.out _ HB2b.out).mono ?_); rintro e w4 ⟨⟨A4, q4, c4, rfl, hq4, hc4⟩, hbl4⟩
       have HB4 := Lib.hid (HB2b.out.trans (hbl4.mono HB2b.out.size))
       have HE4 := Lib.hid (Tb.block_kept HE2a.out hbl4)
       have HC4 := Lib.hid hc4
       have HQ4 := Lib.hid hq4
       clear hq4 hc4 hbl4)
    | (go_at_call 5; (with_reducible refine (HO.out _ _ _ _ _ _ _ _).mono ?_); rintro e w2 ⟨rfl, hbl2⟩
       have hB2 := HB1b.out.trans (hbl2.mono HB1b.out.size)
       have HB2b := Lib.hid (hB2.trans ((Jo.alloc_below w2 (.cells #[.int .i64 k, .int .i64 f, .int .i64 t, .int .i64 n, .slice A m c] 24)).mono hB2.size))
       have HE2a := Lib.hid (Tb.block_new w2 (.cells #[.int .i64 k, .int .i64 f, .int .i64 t, .int .i64 n, .slice A m c] 24))
       obtain ⟨r0, r1, r2, r3, r4⟩ := blk5 (Tb.block_old (Tb.block_kept HE1.out hbl2) (.cells #[.int .i64 k, .int .i64 f, .int .i64 t, .int .i64 n, .slice A m c] 24))
       clear hB2 hbl2)
    | (go_at_call 4; (with_reducible refine (HT.out _).mono ?_); rintro e w1 ⟨rfl, hbl1⟩
       have hB1 := HB0.out.trans (hbl1.mono HB0.out.size)
       have HB1b := Lib.hid (hB1.trans ((Jo.alloc_below w1 (.cells #[.int .i64 k, .int .i64 f, .int .i64 t, .int .i64 n, .slice A m c] 25)).mono hB1.size))
       have HE1 := Lib.hid (Tb.block_new w1 (.cells #[.int .i64 k, .int .i64 f, .int .i64 t, .int .i64 n, .slice A m c] 25))
       clear hB1 hbl1))
  have hal := Jo.alloc_below w6 (.cells #[.int .i64 k6, .int .i64 f6, .int .i64 t6, .int .i64 n6, .slice A6 q6 c6] 24)
  have HWE := Lib.hid (HB6.out.trans (hal.mono HB6.out.size))
  have HK6 := Lib.hid (Tb.block_old HE6.out (.cells #[.int .i64 k6, .int .i64 f6, .int .i64 t6, .int .i64 n6, .slice A6 q6 c6] 24))
  have HK9 := Lib.hid (Tb.block_old HE65.out (.cells #[.int .i64 k6, .int .i64 f6, .int .i64 t6, .int .i64 n6, .slice A6 q6 c6] 24))
  have HK11 := Lib.hid (Tb.block_new w6 (.cells #[.int .i64 k6, .int .i64 f6, .int .i64 t6, .int .i64 n6, .slice A6 q6 c6] 24))
  have HC7 := Lib.hid (HC6.out.kept hal)
  have HF7 := Lib.hid (HF65.out.kept hal)
  have HF8 := Lib.hid (HF6.out.kept hal)
  obtain ⟨WE, hWE⟩ : ∃ W, W = w6.alloc (.cells #[.int .i64 k6, .int .i64 f6, .int .i64 t6, .int .i64 n6, .slice A6 q6 c6] 24) := ⟨_, rfl⟩
  rw [← hWE] at HWE HK6 HK9 HK11 HC7 HF7 HF8 ⊢
  obtain ⟨g6, hg6⟩ : ∃ g, g = w2.heap.size := ⟨_, rfl⟩
  obtain ⟨g9, hg9⟩ : ∃ g, g = w5.heap.size := ⟨_, rfl⟩
  obtain ⟨g11, hg11⟩ : ∃ g, g = w6.heap.size := ⟨_, rfl⟩
  rw [← hg6] at HK6 ⊢
  rw [← hg9] at HK9 ⊢
  rw [← hg11] at HK11 ⊢
  rw [← HD.out]
  clear hal hWE hg6 hg9 hg11 HC6 HC5 HC4 HF65 HF6 HF5 HE6 HE65 HE5 HE4 HE2 HE2a HE1 HB6 HB5b HB4 HB2b HB1b HB0 HV5 HEN HRD HT r0 r1 r2 r3 r4
  have CK : Hid (∀ p : InW WE, Calls Tryz.prog 9 #[] p.val fun e w' => e = .returned (.bool true) ∧ ∃ q : InW WE, w' = q.val) := fun p => calls_in (known_any p.val)
  have CC : Hid (∀ p : InW WE, Calls Tryz.prog 10 #[.agg #[.int .i64 k, .int .i64 f, .int .i64 t, .int .i64 n, .slice A m c]] p.val fun e w' => e = .returned (.int .i64 z) ∧ ∃ q : InW WE, w' = q.val) := fun p => calls_in (by rw [HZ.out]; exact rcheck_any p.val k f t n A m c)
  have CO : Hid (∀ p : InW WE, Calls Tryz.prog 5 #[.agg #[.int .i64 k6, .int .i64 f6, .int .i64 t6, .int .i64 n6, .slice A5 q5 c5]] p.val fun e w' => e = .returned (.agg #[.int .i64 k6, .int .i64 f6, .int .i64 t6, .int .i64 n6, .slice A5 q5 c5]) ∧ ∃ q : InW WE, w' = q.val) := fun p => calls_in (of_any p.val _ _ _ _ _ _ _)
  have CS : Hid (∀ p : InW WE, Calls Tryz.prog 11 #[.agg #[.int .i64 k6, .int .i64 f6, .int .i64 t6, .int .i64 n6, .slice A5 q5 c5], .agg #[.int .i64 k6, .int .i64 f6, .int .i64 t6, .int .i64 n6, .slice A6 q6 c6]] p.val fun e w' => e = .returned (.bool true) ∧ ∃ q : InW WE, w' = q.val) := fun p => calls_in (rsame_eq p.val _ _ _ _ _ _ _ _ _ _ x6 (HF7.out.kept p.bel) (HF8.out.kept p.bel) HXL.out)
  obtain ⟨a0, a1, a2, a3, a4⟩ := blk5 HK6.out
  obtain ⟨b0, b1', b2', b3', b4'⟩ := blk5 HK9.out
  obtain ⟨d0, d1, d2, d3, d4⟩ := blk5 HK11.out
  have x0 := fun p : InW WE => p.cell a0
  have x1 := fun p : InW WE => p.cell a1
  have x2 := fun p : InW WE => p.cell a2
  have x3 := fun p : InW WE => p.cell a3
  have x4 := fun p : InW WE => p.cell a4
  have y0 := fun p : InW WE => p.cell b0
  have y1 := fun p : InW WE => p.cell b1'
  have y2 := fun p : InW WE => p.cell b2'
  have y3 := fun p : InW WE => p.cell b3'
  have y4 := fun p : InW WE => p.cell b4'
  have v0 := fun p : InW WE => p.cell d0
  have v1 := fun p : InW WE => p.cell d1
  have v2 := fun p : InW WE => p.cell d2
  have v3 := fun p : InW WE => p.cell d3
  have v4 := fun p : InW WE => p.cell d4
  clear a0 a1 a2 a3 a4 b0 b1' b2' b3' b4' d0 d1 d2 d3 d4
  refine wp_region_below (W := WE) (by kernel_rfl) (by kernel_rfl) (Below.refl _ _) ?_
  repeat (go_big_quiet_step ((first | (go_at_call 9; exact CK.out _) | (go_at_call 10; exact CC.out _) | (go_at_call 5; exact CO.out _) | (go_at_call 11; exact CS.out _))))
  refine wpQuiet_nil ?_
  rintro _ ⟨pq, rfl⟩
  obtain ⟨wq, hbq⟩ := pq
  try dsimp only
  clear x0 x1 x2 x3 x4 y0 y1 y2 y3 y4 v0 v1 v2 v3 v4 CK CC CO CS
  have HBQ := Lib.hid (HWE.out.trans (hbq.mono HWE.out.size))
  have HK6q := Lib.hid (Tb.block_kept HK6.out hbq)
  have HCq := Lib.hid (HC7.out.kept hbq)
  clear hbq HK6 HK9 HK11 HC7 HF7 HF8
  by_cases hz0 : z = 0
  · have hok : chkE k f t n m = 0 := HZ.out.symm.trans hz0
    have hok2 : chkE k f t n x.length = 0 := by rw [HX.out.2.2.2]; exact hok
    have hfw := pk_fwd hok2 (by have := HX.out; omega)
    have hco := chk_ok hok
    have hpb : bok (frF (pkB k f t n x)) := frF_bok (pkB_bok (by have := hco.1; omega) (by have := hco.2.2.2.1; omega) (by have := hco.2.2.2.2.1; omega) hco.2.1.2 HX.out.2.1 (by have := HX.out; omega))
    have hql : q4 ≤ 1000 := by
      rw [HQ4.out, if_pos hz0, frF_len]
      have := pkB_len k f t n x
      have := HX.out
      omega
    have hcq := HCq.out
    rw [if_pos hz0] at hcq
    have HCC := Lib.hid hcq
    have HLL : Hid ((frF (pkB k f t n x)).length ≤ 2000000) := by show _ ≤ _; rw [frF_len]; have := pkB_len k f t n x; have := HX.out; omega
    have HOK := Lib.hid hok
    have HD2 : Hid (Calls Tryz.prog 7 #[.slice A4 q4 c4] wq fun e w' => (∃ A9 q9 c9, e = .returned (.tuple #[.agg #[.int .i64 k, .int .i64 f, .int .i64 t, .int .i64 n, .slice A9 q9 c9], .int .i64 0]) ∧ BAt w' (.slice A9 q9 c9) x) ∧ Below wq.heap.size wq w') := by
      refine (decode_any wq A4 q4 c4 _ hcq hpb (by omega)).mono ?_
      rintro e w' ⟨⟨k9, f9, t9, n9, A9, q9, c9, x9, he, hbf, hv⟩, hbl⟩
      obtain ⟨rfl, rfl, rfl, rfl, rfl⟩ := prod5 (hv.trans hfw.2)
      rw [hfw.1] at he
      exact ⟨⟨A9, q9, c9, he, hbf.1⟩, hbl⟩
    subst hz0
    clear hok hok2 hfw hco hpb hql hcq HCq HQ4 HDC
    go_upto_region 12 with (first
      | (go_at_call 7; (with_reducible refine HD2.out.mono ?_); rintro e w9 ⟨⟨A9, q9, c9, rfl, hb9⟩, hbl9⟩
         have hal9 := Jo.alloc_below w9 (.cells #[.int .i64 k, .int .i64 f, .int .i64 t, .int .i64 n, .slice A9 q9 c9] 25)
         have HK13 := Lib.hid (Tb.block_kept (Tb.block_new w9 (.cells #[.int .i64 k, .int .i64 f, .int .i64 t, .int .i64 n, .slice A9 q9 c9] 25)) (Below.refl _ _).drew)
         have HK6g := Lib.hid (Tb.block_kept (Tb.block_kept (Tb.block_kept HK6q.out hbl9) hal9) (Below.refl _ _).drew)
         have HF9 := Lib.hid ((hb9.kept hal9).kept (Below.refl _ _).drew)
         have HCg := Lib.hid (((HCC.out.kept hbl9).kept hal9).kept (Below.refl _ _).drew)
         have hbg := (HBQ.out.trans (hbl9.mono HBQ.out.size))
         have HBG := Lib.hid ((hbg.trans (hal9.mono hbg.size)).trans ((Below.refl _ _).drew.mono (hbg.trans (hal9.mono hbg.size)).size))
         clear hb9 hbl9 hal9 hbg))
    obtain ⟨WG, hWG⟩ : ∃ W, W = (w9.alloc (.cells #[.int .i64 k, .int .i64 f, .int .i64 t, .int .i64 n, .slice A9 q9 c9] 25)).drew := ⟨_, rfl⟩
    have HWG := Lib.hid hWG
    rw [← hWG] at HK13 HK6g HF9 HCg HBG
    obtain ⟨g13, hg13⟩ : ∃ g, g = w9.heap.size := ⟨_, rfl⟩
    rw [← hg13] at HK13 ⊢
    have u0 := And.intro (val5 HK6g.out) (val5 HK13.out)
    rw [hWG] at u0
    have HRE := Lib.hid (rencode_any WG k f t n A m c x (HX.out.1.kept HBG.out) HX.out.2.1 (by have := HX.out; omega) HOK.out)
    rw [hWG] at HRE
    have HSB : Hid (∀ W A' q' c', Below WG.heap.size WG W → BAt W (.slice A' q' c') (frF (pkB k f t n x)) → Calls Tryz.prog 12 #[.slice A4 q4 c4, .slice A' q' c'] W fun e w' => e = .returned (.bool true) ∧ Below W.heap.size W w') := fun W A' q' c' hW hb => by
      have := bsame_any W _ _ _ _ (HCg.out.kept hW) hb HLL.out HLL.out
      rw [decide_eq_true rfl] at this
      exact this
    have HRS : Hid (∀ W, Below WG.heap.size WG W → Calls Tryz.prog 11 #[.agg #[.int .i64 k, .int .i64 f, .int .i64 t, .int .i64 n, .slice A9 q9 c9], .agg #[.int .i64 k, .int .i64 f, .int .i64 t, .int .i64 n, .slice A m c]] W fun e w' => e = .returned (.bool true) ∧ Below W.heap.size W w') := fun W hW =>
      rsame_eq W k f t n A9 A q9 m c9 c x (HF9.out.kept hW) ((HX.out.1.kept HBG.out).kept hW) (by have := HX.out; omega)
    clear hg13 hWG
    go_region_held3 (fun w' => ((w'.cell? ⟨g6, 0, none⟩ = some (.int .i64 k) ∧ w'.cell? ⟨g6, 1, none⟩ = some (.int .i64 f)) ∧ (w'.cell? ⟨g6, 2, none⟩ = some (.int .i64 t) ∧ w'.cell? ⟨g6, 3, none⟩ = some (.int .i64 n)) ∧ w'.cell? ⟨g6, 4, none⟩ = some (.slice A m c)) ∧ ((w'.cell? ⟨g13, 0, none⟩ = some (.int .i64 k) ∧ w'.cell? ⟨g13, 1, none⟩ = some (.int .i64 f)) ∧ (w'.cell? ⟨g13, 2, none⟩ = some (.int .i64 t) ∧ w'.cell? ⟨g13, 3, none⟩ = some (.int .i64 n)) ∧ w'.cell? ⟨g13, 4, none⟩ = some (.slice A9 q9 c9)))
      (first | with_reducible exact u0 | with_reducible exact u1 | with_reducible exact u2 | with_reducible exact u3 | with_reducible exact u4)
      (first
        | (go_at_call 11; (with_reducible refine (HRS.out _ HB3.out).mono ?_); rintro e e4 ⟨rfl, hb4⟩; have HB4 := Lib.hid (HB3.out.trans (hb4.mono HB3.out.size)); have u4 := And.intro (val5 (Tb.block_kept HK6g.out HB4.out)) (val5 (Tb.block_kept HK13.out HB4.out)); clear hb4)
        | (go_at_call 5; (with_reducible refine (HO.out _ _ _ _ _ _ _ _).mono ?_); rintro e e3 ⟨rfl, hb3⟩; have HB3 := Lib.hid (HB2.out.trans (hb3.mono HB2.out.size)); have u3 := And.intro (val5 (Tb.block_kept HK6g.out HB3.out)) (val5 (Tb.block_kept HK13.out HB3.out)); clear hb3)
        | (go_at_call 13; (with_reducible refine HRE.out.mono ?_); rintro e e1 ⟨AE, qE, cE, rfl, hqe, hbe, hb1⟩; clear hqe; rw [← HWG.out] at hb1; have HB1 := Lib.hid hb1; have HEN1 := Lib.hid hbe; have u1 := And.intro (val5 (Tb.block_kept HK6g.out hb1)) (val5 (Tb.block_kept HK13.out hb1)); clear hb1 hbe)
        | (go_at_call 12; (with_reducible refine (HSB.out _ _ _ _ HB1.out HEN1.out).mono ?_); rintro e e2 ⟨rfl, hb2⟩; have HB2 := Lib.hid (HB1.out.trans (hb2.mono HB1.out.size)); have u2 := And.intro (val5 (Tb.block_kept HK6g.out HB2.out)) (val5 (Tb.block_kept HK13.out HB2.out)); clear hb2))
    all_goals
      go_wp2
      go_ret
      exact ⟨rfl, HBG.out.trans (HB4.out.mono HBG.out.size)⟩
  · obtain rfl : q4 = 0 := by rw [HQ4.out, if_neg hz0]
    clear HQ4 HCq
    go_wp2
    go_ret
    exact ⟨rfl, HBQ.out⟩
end Go.Proofs.YtganokcmcdkdgaaGreat.Pi
