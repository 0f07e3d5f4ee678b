/-
  The contract of the reference's Decode: the walk (by genrde.py). Conditions: at most two million bytes.
-/
import Derived.Test.YtganokcmcdkdgaaGreatUDe3
namespace Go.Proofs.YtganokcmcdkdgaaGreat.Pi
open Go.RowKit Fr Sp
attribute [local go_sem] Oper.semAt_some

set_option maxRecDepth 100000 in
set_option maxHeartbeats 16000000 in
theorem rdecode_any (w : World) (A : Option Addr) (q c : Nat) (G : List Int) (h : BAt w (.slice A q c) G) (hb : bok G) (hq : q ≤ 2000000) :
    Calls Tryz.prog 8 #[.slice A q c] w fun e w' => DecR w.heap.size G e w' ∧ Below w.heap.size w w' := by
  have hlq := h.len.1
  have hb0 : Below w.heap.size w (w.alloc (.cells #[.int .i64 0, .int .i64 0, .int .i64 0, .int .i64 0, .slice none 0 0] 24)) := (Below.refl _ w).alloc (Nat.le_refl _) _
  have HE0 := Lib.hid (Tb.block_new w (.cells #[.int .i64 0, .int .i64 0, .int .i64 0, .int .i64 0, .slice none 0 0] 24))
  have hnx := rnext_in (fun k => k < (w.alloc (.cells #[.int .i64 0, .int .i64 0, .int .i64 0, .int .i64 0, .slice none 0 0] 24)).heap.size) (w.alloc (.cells #[.int .i64 0, .int .i64 0, .int .i64 0, .int .i64 0, .slice none 0 0] 24)) _ G (h.kept hb0) hb (by omega) (fun hp a n c e => bat_lt (h.kept hb0) hp e)
  unfold FstK at hnx
  have hform := dec_form (G := G)
  obtain ⟨E, hE⟩ : ∃ E, E = nxE G := ⟨_, rfl⟩
  obtain ⟨N, hN⟩ : ∃ N, N = nxN G := ⟨_, rfl⟩
  obtain ⟨B, hB⟩ : ∃ B, B = nxB G := ⟨_, rfl⟩
  obtain ⟨kb, hkb⟩ : ∃ k, k = B.length := ⟨_, rfl⟩
  rw [← hE, ← hN, ← hB, ← hkb] at hnx
  rw [← hE, ← hN, ← hB, hlq] at hform
  obtain ⟨d, hd⟩ : ∃ d, d = pkE G := ⟨_, rfl⟩
  have HD := Lib.hid hd
  have HNX := Lib.hid hnx
  have HV0 : Hid (¬ d = 0 → (0, 0, 0, 0, []) = pkV G) := fun h0 => by unfold pkV; rw [← HD.out, if_neg h0]
  have HV1 : Hid (d = 0 → pkV G = ((pkF (opB G)).k, (pkF (opB G)).f, (pkF (opB G)).t, (pkF (opB G)).n, (pkF (opB G)).x)) := fun h0 => by unfold pkV; rw [← HD.out, if_pos h0]
  have HEE := Lib.hid hE
  have HB0 := Lib.hid hb0
  unfold DecR
  rw [← hd]
  rw [← hd] at hform
  clear hnx hd
  by_cases he : E = 0
  · have hform := hform he hb
    by_cases hlt : N < q
    · obtain rfl : d = 3 := hform.1 hlt
      have t1 : (N : Int) < (q : Int) := by omega
      subst he
      have HVV := Lib.hid (HV0.out (by decide))
      clear hE hN hB hkb hlt hform h hb hb0 hlq
      go_enter Tryz.func8, Tryz.ntmps8
      go_wp2_with (go_at_call 26; (with_reducible refine HNX.out.mono ?_); rintro e w1 ⟨⟨A1, c1, rfl, _, _⟩, hb1⟩; have HB1 := Lib.hid (HB0.out.trans (hb1.mono HB0.out.size)); have E8 := Tb.block_kept HE0.out hb1; have FZ := fro5 E8; obtain ⟨z0, z1, z2, z3, z4⟩ := blk5 E8; clear hb1)
      refine bodyPost_ret (v := .tuple #[.agg #[.int .i64 0, .int .i64 0, .int .i64 0, .int .i64 0, .slice none 0 0], .int .i64 3]) (by simp [results, Tryz.results8, go_sem, z0, z1, z2, z3, z4]) rfl ⟨⟨_, _, _, _, _, _, _, _, rfl, BF.nil _ _, HVV.out⟩, ?_⟩
      exact ((((HB1.out.setCell (Nat.le_refl _) _).setCell (Nat.le_refl _) _).setCell (Nat.le_refl _) _).setCell (Nat.le_refl _) _).setCell (Nat.le_refl _) _
    · obtain ⟨e0, eB, hbB, hlB⟩ := hform.2 hlt
      have t1 : ¬ (N : Int) < (q : Int) := by omega
      have hdd : d = if Oc.doneE (pkF B).er (pkF B).r = 0 then endE (pkF B).f (pkF B).t else Oc.doneE (pkF B).er (pkF B).r := by
        rw [HD.out]; unfold pkE; rw [if_pos e0, eB]; rfl
      have hv1 := HV1.out
      rw [eB] at hv1
      have HDD := Lib.hid hdd
      have HV := Lib.hid hv1
      have HBB : Hid (bok B ∧ B.length ≤ 2000000 ∧ kb = B.length) := ⟨hbB, by omega, hkb⟩
      subst he
      have HT9 := Lib.hid hlt
      clear hE hN hB hkb hlt hform h hb hb0 hlq e0 eB hbB hlB hdd hv1 HV1 HD HEE
      go_enter Tryz.func8, Tryz.ntmps8
      go_upto_region 8 with (first
        | (go_at_call 26; (with_reducible refine HNX.out.mono ?_); rintro e w1 ⟨⟨A1, c1, rfl, hba1, hbk1⟩, hb1⟩
           have hal := Jo.alloc_below w1 (.cells #[.slice A1 kb c1, .int .i64 0, .int .i64 0] 62)
           have HBZ : Hid (w.heap.size < w1.heap.size) := by
             have := hb1.size
             have h9 : (w.alloc (.cells #[.int .i64 0, .int .i64 0, .int .i64 0, .int .i64 0, .slice none 0 0] 24)).heap.size = w.heap.size + 1 := by simp
             show _ < _; omega
           have HB3 : Hid (Below w.heap.size w (w1.alloc (.cells #[.slice A1 kb c1, .int .i64 0, .int .i64 0] 62))) := HB0.out.trans ((hb1.trans (hal.mono hb1.size)).mono HB0.out.size)
           have HZ3 := Lib.hid (Tb.block_kept (Tb.block_kept HE0.out hb1) hal)
           have HQ3 : Hid (Qd (w1.alloc (.cells #[.slice A1 kb c1, .int .i64 0, .int .i64 0] 62)) w1.heap.size 0 0 B) := ⟨A1, kb, c1, block_new w1 _, hba1.kept hal, (fun hp a n c e => Nat.lt_of_lt_of_le (hbk1 hp a n c e) hb1.size), HBB.out.1, HBB.out.2.1, Nat.zero_le _⟩
           clear hba1 hbk1 hb1 hal))
      have HW0 : Hid (TI (w1.alloc (.cells #[.slice A1 kb c1, .int .i64 0, .int .i64 0] 62)) w1.heap.size (w1.heap.size + 1) B 0 ((w1.alloc (.cells #[.slice A1 kb c1, .int .i64 0, .int .i64 0] 62)).alloc (.cells #[.int .i64 0, .int .i64 0, .int .i64 0] 63))) := by
        have hz : (w1.alloc (.cells #[.slice A1 kb c1, .int .i64 0, .int .i64 0] 62)).heap.size = w1.heap.size + 1 := by simp
        have h9 := Tb.block_new (w1.alloc (.cells #[.slice A1 kb c1, .int .i64 0, .int .i64 0] 62)) (.cells #[.int .i64 0, .int .i64 0, .int .i64 0] 63)
        rw [hz] at h9
        exact ⟨⟨0, HQ3.out.below (Jo.alloc_below _ _), rfl⟩, grownBy_of_below _ (Jo.alloc_below _ _), h9, by omega, by omega⟩
      have HTB : Hid (w.heap.size < w1.heap.size + 1) := by have := HBZ.out; show _ < _; omega
      have HBW : Hid (w1.heap.size < (w1.alloc (.cells #[.slice A1 kb c1, .int .i64 0, .int .i64 0] 62)).heap.size) := by show _ < _; simp
      obtain ⟨W1, hW1⟩ : ∃ W1, W1 = (w1.alloc (.cells #[.slice A1 kb c1, .int .i64 0, .int .i64 0] 62)).alloc (.cells #[.int .i64 0, .int .i64 0, .int .i64 0] 63) := ⟨_, rfl⟩
      rw [← hW1] at HW0 ⊢
      clear hW1
      obtain ⟨W0, hW0⟩ : ∃ W0, W0 = w1.alloc (.cells #[.slice A1 kb c1, .int .i64 0, .int .i64 0] 62) := ⟨_, rfl⟩
      rw [← hW0] at HB3 HZ3 HW0 HBW
      clear hW0 HQ3 HNX HE0 HB0
      obtain ⟨tb, htb⟩ : ∃ k, k = w1.heap.size + 1 := ⟨_, rfl⟩
      rw [← htb] at HW0 HTB ⊢
      generalize hbz : w1.heap.size = b at *
      clear hbz htb
      go_wp2
      have t9 : decide (N < q) = false := by simpa using HT9.out
      simp only [t9]
      clear t9 t1
      go_loopg [9, 10] 3 (fun (gh : Nat) s9 s10 wx => ∃ i : Nat, gh = 3 - i ∧ i ≤ 3 ∧ s9 = .int .i64 (i : Int) ∧ s10 = s10 ∧ Hid (TI W0 b tb B i wx))
      case atStart => exact ⟨0, rfl, by omega, rfl, rfl, HW0⟩
      case round =>
        clear HW0
        obtain ⟨i, rfl, hi, rfl, _, HT⟩ := hrel
        obtain ⟨m, hqd, hdm⟩ := HT.out.rd
        obtain ⟨cat, cer, _⟩ := qd_cells hqd
        have h1 := qone_any hqd
        rw [hdm] at h1
        have HQD := Lib.hid hqd
        have HDM := Lib.hid hdm
        clear hqd hdm
        rcases (show i = 0 ∨ i = 1 ∨ i = 2 ∨ i = 3 by omega) with rfl | rfl | rfl | rfl
        · rcases one_cases (erI B 0) (lI B 0) with hc | ⟨hc, hx0⟩
          · rw [hc] at h1
            have HONE := Lib.hid h1
            clear h1 hc
            have t3 : ((0 : Nat) : Int) < 3 := by decide
            obtain ⟨x, hx⟩ : ∃ x, x = (byteF (erI B 0) (lI B 0)).2.1 := ⟨_, rfl⟩
            have HX := Lib.hid hx
            have t4 : IntKind.i64.wrap x = x := by have := byte_rng (er := erI B 0) (l := lI B 0) (lI_bok HBB.out.1 0); rw [hx, IntKind.wrap_i64]; omega
            rw [← hx] at HONE
            clear hx
            go_wp2_with (first
              | (go_at_call 27; (with_reducible refine HONE.out.mono ?_); rintro e w4 ⟨A4, q4, c4, rfl, hba, hqs⟩
                 obtain rfl : 1 = q4 := hba.len.1
                 obtain ⟨g4, o4, rfl, hc4, _⟩ := hba.cell 0 (by decide)
                 have hc5 : w4.cell? ⟨g4, o4, none⟩ = some (.int .u8 x) := hc4
                 have ht4 := HT.out.to hqs
                 obtain ⟨⟨x0, x1, x2⟩, fx0, fx1, fx2⟩ := three ht4.th
                 have HT4 := Lib.hid ht4
                 clear hba hqs hc4 ht4))
            have HT5 : Hid (TI W0 b tb B (0 + 1) (w4.setCell ⟨tb, 0, none⟩ (.int .i64 x))) := by
              refine HT4.out.put 0 _ _ _ x ?_
              simp only [World.setCell, Array.getElem?_modify, if_true]; rw [HT4.out.th, HX.out]; rfl
            go_roundg (3 - (0 + 1))
            case measure => omega
            case rel => exact ⟨0 + 1, rfl, by omega, by first | rfl | go_num, trivial, HT5⟩
          · rw [hc] at h1
            have HONE := Lib.hid h1
            clear h1 hc
            have t3 : ((0 : Nat) : Int) < 3 := by decide
            have HX0 := Lib.hid hx0
            clear hx0
            go_wp2_with (first
              | (go_at_call 27; (with_reducible refine HONE.out.mono ?_); rintro e w4 ⟨A4, q4, c4, rfl, hba, hqs⟩
                 obtain rfl : 0 = q4 := hba.len.1
                 have HT4 := Lib.hid (HT.out.to hqs)
                 clear hba hqs))
            have HT5 : Hid (TI W0 b tb B (0 + 1) w4) := by
              have := HT4.out
              unfold TI
              rw [show y0I B (0 + 1) = y0I B 0 from HX0.out]
              exact this
            go_roundg (3 - (0 + 1))
            case measure => omega
            case rel => exact ⟨0 + 1, rfl, by omega, by first | rfl | go_num, trivial, HT5⟩
        · rcases one_cases (erI B 1) (lI B 1) with hc | ⟨hc, hx0⟩
          · rw [hc] at h1
            have HONE := Lib.hid h1
            clear h1 hc
            have t3 : ((1 : Nat) : Int) < 3 := by decide
            obtain ⟨x, hx⟩ : ∃ x, x = (byteF (erI B 1) (lI B 1)).2.1 := ⟨_, rfl⟩
            have HX := Lib.hid hx
            have t4 : IntKind.i64.wrap x = x := by have := byte_rng (er := erI B 1) (l := lI B 1) (lI_bok HBB.out.1 1); rw [hx, IntKind.wrap_i64]; omega
            rw [← hx] at HONE
            clear hx
            go_wp2_with (first
              | (go_at_call 27; (with_reducible refine HONE.out.mono ?_); rintro e w4 ⟨A4, q4, c4, rfl, hba, hqs⟩
                 obtain rfl : 1 = q4 := hba.len.1
                 obtain ⟨g4, o4, rfl, hc4, _⟩ := hba.cell 0 (by decide)
                 have hc5 : w4.cell? ⟨g4, o4, none⟩ = some (.int .u8 x) := hc4
                 have ht4 := HT.out.to hqs
                 obtain ⟨⟨x0, x1, x2⟩, fx0, fx1, fx2⟩ := three ht4.th
                 have HT4 := Lib.hid ht4
                 clear hba hqs hc4 ht4))
            have HT5 : Hid (TI W0 b tb B (1 + 1) (w4.setCell ⟨tb, 1, none⟩ (.int .i64 x))) := by
              refine HT4.out.put 1 _ _ _ x ?_
              simp only [World.setCell, Array.getElem?_modify, if_true]; rw [HT4.out.th, HX.out]; rfl
            go_roundg (3 - (1 + 1))
            case measure => omega
            case rel => exact ⟨1 + 1, rfl, by omega, by first | rfl | go_num, trivial, HT5⟩
          · rw [hc] at h1
            have HONE := Lib.hid h1
            clear h1 hc
            have t3 : ((1 : Nat) : Int) < 3 := by decide
            have HX0 := Lib.hid hx0
            clear hx0
            go_wp2_with (first
              | (go_at_call 27; (with_reducible refine HONE.out.mono ?_); rintro e w4 ⟨A4, q4, c4, rfl, hba, hqs⟩
                 obtain rfl : 0 = q4 := hba.len.1
                 have HT4 := Lib.hid (HT.out.to hqs)
                 clear hba hqs))
            have HT5 : Hid (TI W0 b tb B (1 + 1) w4) := by
              have := HT4.out
              unfold TI
              rw [show y1I B (1 + 1) = y1I B 1 from HX0.out]
              exact this
            go_roundg (3 - (1 + 1))
            case measure => omega
            case rel => exact ⟨1 + 1, rfl, by omega, by first | rfl | go_num, trivial, HT5⟩
        · rcases one_cases (erI B 2) (lI B 2) with hc | ⟨hc, hx0⟩
          · rw [hc] at h1
            have HONE := Lib.hid h1
            clear h1 hc
            have t3 : ((2 : Nat) : Int) < 3 := by decide
            obtain ⟨x, hx⟩ : ∃ x, x = (byteF (erI B 2) (lI B 2)).2.1 := ⟨_, rfl⟩
            have HX := Lib.hid hx
            have t4 : IntKind.i64.wrap x = x := by have := byte_rng (er := erI B 2) (l := lI B 2) (lI_bok HBB.out.1 2); rw [hx, IntKind.wrap_i64]; omega
            rw [← hx] at HONE
            clear hx
            go_wp2_with (first
              | (go_at_call 27; (with_reducible refine HONE.out.mono ?_); rintro e w4 ⟨A4, q4, c4, rfl, hba, hqs⟩
                 obtain rfl : 1 = q4 := hba.len.1
                 obtain ⟨g4, o4, rfl, hc4, _⟩ := hba.cell 0 (by decide)
                 have hc5 : w4.cell? ⟨g4, o4, none⟩ = some (.int .u8 x) := hc4
                 have ht4 := HT.out.to hqs
                 obtain ⟨⟨x0, x1, x2⟩, fx0, fx1, fx2⟩ := three ht4.th
                 have HT4 := Lib.hid ht4
                 clear hba hqs hc4 ht4))
            have HT5 : Hid (TI W0 b tb B (2 + 1) (w4.setCell ⟨tb, 2, none⟩ (.int .i64 x))) := by
              refine HT4.out.put 2 _ _ _ x ?_
              simp only [World.setCell, Array.getElem?_modify, if_true]; rw [HT4.out.th, HX.out]; rfl
            go_roundg (3 - (2 + 1))
            case measure => omega
            case rel => exact ⟨2 + 1, rfl, by omega, by first | rfl | go_num, trivial, HT5⟩
          · rw [hc] at h1
            have HONE := Lib.hid h1
            clear h1 hc
            have t3 : ((2 : Nat) : Int) < 3 := by decide
            have HX0 := Lib.hid hx0
            clear hx0
            go_wp2_with (first
              | (go_at_call 27; (with_reducible refine HONE.out.mono ?_); rintro e w4 ⟨A4, q4, c4, rfl, hba, hqs⟩
                 obtain rfl : 0 = q4 := hba.len.1
                 have HT4 := Lib.hid (HT.out.to hqs)
                 clear hba hqs))
            have HT5 : Hid (TI W0 b tb B (2 + 1) w4) := by
              have := HT4.out
              unfold TI
              rw [show y2I B (2 + 1) = y2I B 2 from HX0.out]
              exact this
            go_roundg (3 - (2 + 1))
            case measure => omega
            case rel => exact ⟨2 + 1, rfl, by omega, by first | rfl | go_num, trivial, HT5⟩
        · clear h1
          obtain ⟨kk, hkk⟩ : ∃ z, z = (pkF B).k := ⟨_, rfl⟩
          obtain ⟨ff, hff⟩ : ∃ z, z = (pkF B).f := ⟨_, rfl⟩
          obtain ⟨tt, htt⟩ : ∃ z, z = (pkF B).t := ⟨_, rfl⟩
          obtain ⟨nn, hnn⟩ : ∃ z, z = (pkF B).n := ⟨_, rfl⟩
          have htq : TQ W0 b tb B (b3 B).1 (b3 B).2.2 kk ff tt wr := by rw [hkk, hff, htt]; exact HT.out
          have htq1 := htq.below (W' := wr.drew) (Below.refl _ _).drew
          have hal0 := Jo.alloc_below wr (.cells #[.int .i64 0, .int .i64 0, .int .i64 0, .int .i64 0, .slice none 0 0] 24)
          have htq2 := htq.below (W' := (wr.alloc (.cells #[.int .i64 0, .int .i64 0, .int .i64 0, .int .i64 0, .slice none 0 0] 24)).drew) hal0.drew
          have hcn : ∀ W, TQ W0 b tb B (b3 B).1 (b3 B).2.2 kk ff tt W → Calls Tryz.prog 28 #[.pointer (some ⟨b, 0, none⟩), .int .i64 1099511627776] W fun e w' => e = .returned (.int .i64 nn) ∧ TQ W0 b tb B (b4 B).1 (b4 B).2.2 kk ff tt w' ∧ ∀ j o, j ≠ b → W.heap[j]? = some o → w'.heap[j]? = some o := fun W hW => by
            obtain ⟨m', hq', hd'⟩ := hW.rd
            have h2 := qcount_all hq' 1099511627776 (by decide)
            rw [hd'] at h2
            refine h2.mono fun e w' h3 => ⟨by rw [hnn]; exact h3.1, hW.to h3.2, fun j o hj ho => ?_⟩
            obtain ⟨m'', h4, _⟩ := h3.2
            exact (h4.2.block j (Array.getElem?_eq_some_iff.1 ho).1 (fun e => hj (by cases e; rfl))).trans ho
          have HC1 := Lib.hid (hcn _ htq1)
          have HC2 := Lib.hid (hcn _ htq2)
          have HTQ1 := Lib.hid htq1
          have HTQ2 := Lib.hid htq2
          have hw0 : W0.heap.size ≤ wr.heap.size := htq.gr.size
          have hwt : wr.heap.size ≠ tb := fun e => by have := (Array.getElem?_eq_some_iff.1 htq.th).1; omega
          have HWS : Hid (W0.heap.size ≤ wr.heap.size ∧ wr.heap.size ≠ tb ∧ wr.heap.size ≠ b) := ⟨hw0, hwt, by have := htq.lt; omega⟩
          have HZB : Hid ((wr.alloc (.cells #[.int .i64 0, .int .i64 0, .int .i64 0, .int .i64 0, .slice none 0 0] 24)).drew.heap[wr.heap.size]? = some (.cells #[.int .i64 0, .int .i64 0, .int .i64 0, .int .i64 0, .slice none 0 0] 24)) := Tb.block_new wr (.cells #[.int .i64 0, .int .i64 0, .int .i64 0, .int .i64 0, .slice none 0 0] 24)
          have HK4 : Hid (kk = (pkF B).k ∧ ff = (pkF B).f ∧ tt = (pkF B).t ∧ nn = (pkF B).n) := ⟨hkk, hff, htt, hnn⟩
          clear hkk hff htt hnn htq htq1 htq2 hcn hal0 cat cer HQD HDM hw0 hwt
          have a1 := HTQ1.out.c3
          have a2 := HTQ2.out.c3
          go_upto_region 14 with fail
          go_region_held3 (fun w' => w'.cell? ⟨tb, 0, none⟩ = some (.int .i64 kk) ∧ w'.cell? ⟨tb, 1, none⟩ = some (.int .i64 ff) ∧ w'.cell? ⟨tb, 2, none⟩ = some (.int .i64 tt))
            (first | with_reducible exact a1 | with_reducible exact a2 | with_reducible exact a3 | with_reducible exact a4 | with_reducible exact a5 | with_reducible exact a6 | with_reducible exact a7)
            (first
              | (go_at_call 28; (with_reducible refine HC1.out.mono ?_); rintro e w5 ⟨rfl, s5, _⟩; have HT5 := Lib.hid s5; have a3 := s5.c3; have a4 := (s5.below (Jo.alloc_below w5 (.cells #[.int .i64 0, .int .i64 0, .int .i64 0, .int .i64 0, .slice none 0 0] 24))).c3; have a5 := (s5.below (Jo.alloc_below w5 (.cells #[.int .i64 kk, .int .i64 ff, .int .i64 tt, .int .i64 nn, .slice none 0 0] 24))).c3; clear s5)
              | (go_at_call 28; (with_reducible refine HC2.out.mono ?_); rintro e w5 ⟨rfl, s5, hk5⟩; have HT6 := Lib.hid s5; have HZ6 := Lib.hid (hk5 _ _ HWS.out.2.2 HZB.out); obtain ⟨z0, z1, z2, z3, z4⟩ := blk5 HZ6.out; have FZ6 := fro5 HZ6.out; have a6 := s5.c3; have a7 := (s5.other5 HWS.out.1 HWS.out.2.1 (.int .i64 kk) (.int .i64 ff) (.int .i64 tt) (.int .i64 nn) (.slice none 0 0)).c3; clear s5 hk5))
          all_goals
            rename_i hHeld
            clear hHeld a1 a2
            first
              | (have HP7 := Lib.hid (TP.set5 HT6.out HZ6.out HWS.out.1 HWS.out.2.1 nn (.slice none 0 0))
                 generalize hW7 : ((((w5.setCell ⟨wr.heap.size, 0, none⟩ (.int .i64 kk)).setCell ⟨wr.heap.size, 1, none⟩ (.int .i64 ff)).setCell ⟨wr.heap.size, 2, none⟩ (.int .i64 tt)).setCell ⟨wr.heap.size, 3, none⟩ (.int .i64 nn)).setCell ⟨wr.heap.size, 4, none⟩ (.slice none 0 0) = W7 at HP7 ⊢
                 generalize hbp : wr.heap.size = bp at HP7 ⊢
                 clear hW7 hbp HT6 HZ6 z0 z1 z2 z3 z4 FZ6 a6 a7)
              | (have HP7 := Lib.hid (TP.new HT5.out nn (.slice none 0 0))
                 generalize hW7 : w5.alloc (.cells #[.int .i64 kk, .int .i64 ff, .int .i64 tt, .int .i64 nn, .slice none 0 0] 24) = W7 at HP7 ⊢
                 generalize hbp : w5.heap.size = bp at HP7 ⊢
                 clear hW7 hbp HT5 a3 a4 a5)
            clear HC1 HC2 HTQ1 HTQ2 HWS HZB
            obtain ⟨p0, p1, p2, p3, p4⟩ := blk5 HP7.out.p
            obtain ⟨m0, mf⟩ := HP7.out.mist
            have FP := fro5 HP7.out.p
            have HN0 : Hid (w.heap.size ≤ bp) := Nat.le_trans HB3.out.size HP7.out.ge
            obtain ⟨er9, he9⟩ : ∃ z, z = (pkF B).er := ⟨_, rfl⟩
            obtain ⟨r9, hr9⟩ : ∃ z, z = (pkF B).r := ⟨_, rfl⟩
            obtain ⟨x9, hx9⟩ : ∃ z, z = (pkF B).x := ⟨_, rfl⟩
            obtain ⟨e4', h4'⟩ : ∃ z, z = (b4 B).1 := ⟨_, rfl⟩
            obtain ⟨r4', h4r⟩ : ∃ z, z = (b4 B).2.2 := ⟨_, rfl⟩
            obtain ⟨dd, hdd⟩ : ∃ z, z = Oc.doneE er9 r9 := ⟨_, rfl⟩
            obtain ⟨ee, hee⟩ : ∃ z, z = endE ff tt := ⟨_, rfl⟩
            have HDE := Lib.hid hdd
            have HK9 := Lib.hid hee
            have HDX : Hid (d = if dd = 0 then ee else dd) := by
              rw [hdd, hee, he9, hr9, HK4.out.2.1, HK4.out.2.2.1]; exact HDD.out
            have HVX : Hid (d = 0 → (kk, ff, tt, nn, x9) = pkV G) := fun h0 => by
              rw [HV.out h0, HK4.out.1, HK4.out.2.1, HK4.out.2.2.1, HK4.out.2.2.2, hx9]
            have HPR : Hid (∀ W, Calls Tryz.prog 31 #[.int .i64 ff, .int .i64 tt] W fun e w' => e = .returned (.bool (decide (ee = 0))) ∧ W = w') := fun W => by
              rw [hee]; exact pair_any W ff tt
            have h51 := b5_one (D := B)
            have h52 := b5_kd (D := B)
            rw [← HK4.out.1, ← he9, ← hx9, ← hr9, ← h4', ← h4r] at h51 h52
            have hxb : kk = 1 → bok x9 := fun _ => by rw [hx9]; exact b5_bok HBB.out.1
            rw [← h4', ← h4r] at HP7
            rw [← h4'] at m0
            clear he9 hr9 hx9 h4' h4r hdd hee HK4 HV HDD HT
            by_cases hk1 : kk = 1
            · have HTX := Lib.hid (HP7.out.text (h51 hk1))
              have HXB := Lib.hid (hxb hk1)
              subst hk1
              clear h51 h52 hxb
              obtain ⟨cv, cw, hcv⟩ := str_new (Oc.strOf x9)
              rw [str_len] at hcv
              have q1 := fun W => (hcv W w.heap.size).1
              have Q2 : Hid (∀ W, BF w.heap.size (cw W) (.slice (some ⟨W.heap.size, 0, none⟩) x9.length (cv W)) x9 ∧ Below W.heap.size W (cw W)) := Lib.hid (fun W => ⟨by have := (hcv W w.heap.size).2.1; rw [sb_both, Oc.sb_strOf HXB.out] at this; exact this, (hcv W w.heap.size).2.2⟩)
              obtain ⟨y, hy⟩ : ∃ y, y = Oc.strOf x9 := ⟨_, rfl⟩
              obtain ⟨m, hm⟩ : ∃ m, m = x9.length := ⟨_, rfl⟩
              rw [← hy] at HTX q1
              rw [← hm] at q1 Q2
              clear hcv hy hm
              go_upto_region 17 with (first
                | (go_at_call 29; (with_reducible refine HTX.out.mono ?_); rintro e w8 ⟨rfl, s8⟩; have HT8 := Lib.hid (s8.below (Q2.out w8).2); have c8 := (blk5 HT8.out.p).2.2.2.2; have f8 := fro5 HT8.out.p; clear s8))
              have HBF := Lib.hid (bf_keptR (Q2.out w8).1 HT8.out.p HN0.out (Tb.Kept.of_set (cw w8) ⟨bp, 4, none⟩ (.slice (some ⟨w8.heap.size, 0, none⟩) m (cv w8))))
              have HT9 := Lib.hid (HT8.out.body (.slice (some ⟨w8.heap.size, 0, none⟩) m (cv w8)))
              generalize hWx : (cw w8).setCell ⟨bp, 4, none⟩ (.slice (some ⟨w8.heap.size, 0, none⟩) m (cv w8)) = Wx at HBF HT9 ⊢
              generalize hU : Value.slice (some ⟨w8.heap.size, 0, none⟩) m (cv w8) = U at HBF HT9
              clear hWx c8 f8 q1 p0 p1 p2 p3 p4 m0 mf FP HP7 HTX Q2 HT8
              subst hU
              obtain ⟨p0, p1, p2, p3, p4⟩ := blk5 HT9.out.p
              obtain ⟨m0, mf⟩ := HT9.out.mist
              by_cases he0 : er9 = 0
              · have te : (er9 == 0) = true := by simpa using he0
                go_upto_region 19 with fail
                have HZ9 := Lib.hid (HT9.out.old HZ3.out (by have := HBZ.out; omega))
                have HBW9 : Hid (Below w.heap.size w Wx) := HB3.out.grown HT9.out.q.gr HB3.out.size (fun j hj => by cases hj; exact Nat.le_of_lt HBZ.out)
                have HDG : Hid (∀ W, Below Wx.heap.size Wx W → Calls Tryz.prog 30 #[.pointer (some ⟨b, 0, none⟩)] W fun e w' => e = .returned (.int .i64 dd) ∧ Below W.heap.size W w') := fun W hW => by
                  have := (HT9.out.below hW).done
                  rw [← HDE.out] at this
                  exact this
                by_cases hdd : dd = 0
                · have hd1 : d = ee := by rw [HDX.out, if_pos hdd]
                  subst hdd
                  by_cases hee : ee = 0
                  · have hd0 : d = 0 := hd1.trans hee
                    rw [hee] at HPR
                    have HVV := Lib.hid (HVX.out hd0)
                    have HD0 := Lib.hid hd0
                    clear hd1 hee hd0
                    go_wp2_with (first
                    | (go_at_call 31; (with_reducible refine (HPR.out _).mono ?_); rintro e w11 ⟨rfl, rfl⟩)
                    | (go_at_call 30; (with_reducible refine (HDG.out _ HB10.out).mono ?_); rintro e w12 ⟨rfl, hb12⟩; have hb13 := HB10.out.trans (hb12.mono HB10.out.size); have HB13 := Lib.hid hb13; have e12 := Tb.block_kept HZ9.out hb13; obtain ⟨z0, z1, z2, z3, z4⟩ := blk5 e12; have FZ := fro5 e12; clear hb12 hb13 e12)
                    | (go_at_call 30; (with_reducible refine (HDG.out _ (Below.refl _ _)).mono ?_); rintro e w10 ⟨rfl, hb10⟩; have HB10 := Lib.hid hb10; have e10 := Tb.block_kept HT9.out.p hb10; obtain ⟨r0, r1, r2, r3, r4⟩ := blk5 e10; have e11 := Tb.block_kept HZ9.out hb10; obtain ⟨z0, z1, z2, z3, z4⟩ := blk5 e11; have FZ := fro5 e11; have HE11 := Lib.hid e11; clear hb10 e10 e11))
                    refine bodyPost_ret (v := .tuple #[.agg #[.int .i64 1, .int .i64 ff, .int .i64 tt, .int .i64 nn, .slice (some ⟨w8.heap.size, 0, none⟩) m (cv w8)], .int .i64 0]) (by simp [results, Tryz.results8, go_sem, z0, z1, z2, z3, z4]) rfl ⟨?_, ?_⟩
                    · rw [HD0.out]
                      have hbf := bf_keptR (HBF.out.below HB10.out) HE11.out (Nat.le_refl _) (set5 w10 w.heap.size (.int .i64 1) (.int .i64 ff) (.int .i64 tt) (.int .i64 nn) (.slice (some ⟨w8.heap.size, 0, none⟩) m (cv w8)))
                      first
                        | exact ⟨_, _, _, _, _, _, _, _, rfl, hbf, HVV.out⟩
                        | exact ⟨_, _, _, _, _, _, _, rfl, _, hbf, HVV.out⟩
                    · exact (((((HBW9.out.trans (HB10.out.mono HBW9.out.size)).setCell (Nat.le_refl _) _).setCell (Nat.le_refl _) _).setCell (Nat.le_refl _) _).setCell (Nat.le_refl _) _).setCell (Nat.le_refl _) _
                  · have h5 : ee = 5 := (endE_two ff tt).elim (fun h => absurd (HK9.out.trans h) hee) (fun h => HK9.out.trans h)
                    have hd5 : d = 5 := hd1.trans h5
                    have HVV := Lib.hid (HV0.out (by rw [hd5]; decide))
                    have HD0 := Lib.hid hd5
                    rw [h5] at HPR
                    clear hd1 hee h5 hd5
                    go_wp2_with (first
                    | (go_at_call 31; (with_reducible refine (HPR.out _).mono ?_); rintro e w11 ⟨rfl, rfl⟩)
                    | (go_at_call 30; (with_reducible refine (HDG.out _ HB10.out).mono ?_); rintro e w12 ⟨rfl, hb12⟩; have hb13 := HB10.out.trans (hb12.mono HB10.out.size); have HB13 := Lib.hid hb13; have e12 := Tb.block_kept HZ9.out hb13; obtain ⟨z0, z1, z2, z3, z4⟩ := blk5 e12; have FZ := fro5 e12; clear hb12 hb13 e12)
                    | (go_at_call 30; (with_reducible refine (HDG.out _ (Below.refl _ _)).mono ?_); rintro e w10 ⟨rfl, hb10⟩; have HB10 := Lib.hid hb10; have e10 := Tb.block_kept HT9.out.p hb10; obtain ⟨r0, r1, r2, r3, r4⟩ := blk5 e10; have e11 := Tb.block_kept HZ9.out hb10; obtain ⟨z0, z1, z2, z3, z4⟩ := blk5 e11; have FZ := fro5 e11; have HE11 := Lib.hid e11; clear hb10 e10 e11))
                    refine bodyPost_ret (v := .tuple #[.agg #[.int .i64 0, .int .i64 0, .int .i64 0, .int .i64 0, .slice none 0 0], .int .i64 5]) (by simp [results, Tryz.results8, go_sem, z0, z1, z2, z3, z4]) rfl ⟨?_, ?_⟩
                    · rw [HD0.out]
                      exact ⟨_, _, _, _, _, _, _, _, rfl, BF.nil _ _, HVV.out⟩
                    · exact (((((HBW9.out.trans (HB10.out.mono HBW9.out.size)).setCell (Nat.le_refl _) _).setCell (Nat.le_refl _) _).setCell (Nat.le_refl _) _).setCell (Nat.le_refl _) _).setCell (Nat.le_refl _) _
                · have hd1 : d = dd := by rw [HDX.out, if_neg hdd]
                  have HVV := Lib.hid (HV0.out (by rw [hd1]; exact hdd))
                  have HD0 := Lib.hid hd1
                  clear hd1
                  go_wp2_with (first
                    | (go_at_call 31; (with_reducible refine (HPR.out _).mono ?_); rintro e w11 ⟨rfl, rfl⟩)
                    | (go_at_call 30; (with_reducible refine (HDG.out _ HB10.out).mono ?_); rintro e w12 ⟨rfl, hb12⟩; have hb13 := HB10.out.trans (hb12.mono HB10.out.size); have HB13 := Lib.hid hb13; have e12 := Tb.block_kept HZ9.out hb13; obtain ⟨z0, z1, z2, z3, z4⟩ := blk5 e12; have FZ := fro5 e12; clear hb12 hb13 e12)
                    | (go_at_call 30; (with_reducible refine (HDG.out _ (Below.refl _ _)).mono ?_); rintro e w10 ⟨rfl, hb10⟩; have HB10 := Lib.hid hb10; have e10 := Tb.block_kept HT9.out.p hb10; obtain ⟨r0, r1, r2, r3, r4⟩ := blk5 e10; have e11 := Tb.block_kept HZ9.out hb10; obtain ⟨z0, z1, z2, z3, z4⟩ := blk5 e11; have FZ := fro5 e11; have HE11 := Lib.hid e11; clear hb10 e10 e11))
                  refine bodyPost_ret (v := .tuple #[.agg #[.int .i64 0, .int .i64 0, .int .i64 0, .int .i64 0, .slice none 0 0], .int .i64 dd]) (by simp [results, Tryz.results8, go_sem, z0, z1, z2, z3, z4]) rfl ⟨?_, ?_⟩
                  · rw [HD0.out]
                    exact ⟨_, _, _, _, _, _, _, _, rfl, BF.nil _ _, HVV.out⟩
                  · exact (((((HBW9.out.trans (HB13.out.mono HBW9.out.size)).setCell (Nat.le_refl _) _).setCell (Nat.le_refl _) _).setCell (Nat.le_refl _) _).setCell (Nat.le_refl _) _).setCell (Nat.le_refl _) _
              · have te : (er9 == 0) = false := by simpa using he0
                go_upto_region 19 with fail
                have HZ9 := Lib.hid (HT9.out.old HZ3.out (by have := HBZ.out; omega))
                have HBW9 : Hid (Below w.heap.size w Wx) := HB3.out.grown HT9.out.q.gr HB3.out.size (fun j hj => by cases hj; exact Nat.le_of_lt HBZ.out)
                have HDG : Hid (∀ W, Below Wx.heap.size Wx W → Calls Tryz.prog 30 #[.pointer (some ⟨b, 0, none⟩)] W fun e w' => e = .returned (.int .i64 dd) ∧ Below W.heap.size W w') := fun W hW => by
                  have := (HT9.out.below hW).done
                  rw [← HDE.out] at this
                  exact this
                by_cases hdd : dd = 0
                · have hd1 : d = ee := by rw [HDX.out, if_pos hdd]
                  subst hdd
                  by_cases hee : ee = 0
                  · have hd0 : d = 0 := hd1.trans hee
                    rw [hee] at HPR
                    have HVV := Lib.hid (HVX.out hd0)
                    have HD0 := Lib.hid hd0
                    clear hd1 hee hd0
                    go_wp2_with (first
                    | (go_at_call 31; (with_reducible refine (HPR.out _).mono ?_); rintro e w11 ⟨rfl, rfl⟩)
                    | (go_at_call 30; (with_reducible refine (HDG.out _ HB10.out).mono ?_); rintro e w12 ⟨rfl, hb12⟩; have hb13 := HB10.out.trans (hb12.mono HB10.out.size); have HB13 := Lib.hid hb13; have e12 := Tb.block_kept HZ9.out hb13; obtain ⟨z0, z1, z2, z3, z4⟩ := blk5 e12; have FZ := fro5 e12; clear hb12 hb13 e12)
                    | (go_at_call 30; (with_reducible refine (HDG.out _ (Below.refl _ _)).mono ?_); rintro e w10 ⟨rfl, hb10⟩; have HB10 := Lib.hid hb10; have e10 := Tb.block_kept HT9.out.p hb10; obtain ⟨r0, r1, r2, r3, r4⟩ := blk5 e10; have e11 := Tb.block_kept HZ9.out hb10; obtain ⟨z0, z1, z2, z3, z4⟩ := blk5 e11; have FZ := fro5 e11; have HE11 := Lib.hid e11; clear hb10 e10 e11))
                    refine bodyPost_ret (v := .tuple #[.agg #[.int .i64 1, .int .i64 ff, .int .i64 tt, .int .i64 nn, .slice (some ⟨w8.heap.size, 0, none⟩) m (cv w8)], .int .i64 0]) (by simp [results, Tryz.results8, go_sem, z0, z1, z2, z3, z4]) rfl ⟨?_, ?_⟩
                    · rw [HD0.out]
                      have hbf := bf_keptR (HBF.out.below HB10.out) HE11.out (Nat.le_refl _) (set5 w10 w.heap.size (.int .i64 1) (.int .i64 ff) (.int .i64 tt) (.int .i64 nn) (.slice (some ⟨w8.heap.size, 0, none⟩) m (cv w8)))
                      first
                        | exact ⟨_, _, _, _, _, _, _, _, rfl, hbf, HVV.out⟩
                        | exact ⟨_, _, _, _, _, _, _, rfl, _, hbf, HVV.out⟩
                    · exact (((((HBW9.out.trans (HB10.out.mono HBW9.out.size)).setCell (Nat.le_refl _) _).setCell (Nat.le_refl _) _).setCell (Nat.le_refl _) _).setCell (Nat.le_refl _) _).setCell (Nat.le_refl _) _
                  · have h5 : ee = 5 := (endE_two ff tt).elim (fun h => absurd (HK9.out.trans h) hee) (fun h => HK9.out.trans h)
                    have hd5 : d = 5 := hd1.trans h5
                    have HVV := Lib.hid (HV0.out (by rw [hd5]; decide))
                    have HD0 := Lib.hid hd5
                    rw [h5] at HPR
                    clear hd1 hee h5 hd5
                    go_wp2_with (first
                    | (go_at_call 31; (with_reducible refine (HPR.out _).mono ?_); rintro e w11 ⟨rfl, rfl⟩)
                    | (go_at_call 30; (with_reducible refine (HDG.out _ HB10.out).mono ?_); rintro e w12 ⟨rfl, hb12⟩; have hb13 := HB10.out.trans (hb12.mono HB10.out.size); have HB13 := Lib.hid hb13; have e12 := Tb.block_kept HZ9.out hb13; obtain ⟨z0, z1, z2, z3, z4⟩ := blk5 e12; have FZ := fro5 e12; clear hb12 hb13 e12)
                    | (go_at_call 30; (with_reducible refine (HDG.out _ (Below.refl _ _)).mono ?_); rintro e w10 ⟨rfl, hb10⟩; have HB10 := Lib.hid hb10; have e10 := Tb.block_kept HT9.out.p hb10; obtain ⟨r0, r1, r2, r3, r4⟩ := blk5 e10; have e11 := Tb.block_kept HZ9.out hb10; obtain ⟨z0, z1, z2, z3, z4⟩ := blk5 e11; have FZ := fro5 e11; have HE11 := Lib.hid e11; clear hb10 e10 e11))
                    refine bodyPost_ret (v := .tuple #[.agg #[.int .i64 0, .int .i64 0, .int .i64 0, .int .i64 0, .slice none 0 0], .int .i64 5]) (by simp [results, Tryz.results8, go_sem, z0, z1, z2, z3, z4]) rfl ⟨?_, ?_⟩
                    · rw [HD0.out]
                      exact ⟨_, _, _, _, _, _, _, _, rfl, BF.nil _ _, HVV.out⟩
                    · exact (((((HBW9.out.trans (HB10.out.mono HBW9.out.size)).setCell (Nat.le_refl _) _).setCell (Nat.le_refl _) _).setCell (Nat.le_refl _) _).setCell (Nat.le_refl _) _).setCell (Nat.le_refl _) _
                · have hd1 : d = dd := by rw [HDX.out, if_neg hdd]
                  have HVV := Lib.hid (HV0.out (by rw [hd1]; exact hdd))
                  have HD0 := Lib.hid hd1
                  clear hd1
                  go_wp2_with (first
                    | (go_at_call 31; (with_reducible refine (HPR.out _).mono ?_); rintro e w11 ⟨rfl, rfl⟩)
                    | (go_at_call 30; (with_reducible refine (HDG.out _ HB10.out).mono ?_); rintro e w12 ⟨rfl, hb12⟩; have hb13 := HB10.out.trans (hb12.mono HB10.out.size); have HB13 := Lib.hid hb13; have e12 := Tb.block_kept HZ9.out hb13; obtain ⟨z0, z1, z2, z3, z4⟩ := blk5 e12; have FZ := fro5 e12; clear hb12 hb13 e12)
                    | (go_at_call 30; (with_reducible refine (HDG.out _ (Below.refl _ _)).mono ?_); rintro e w10 ⟨rfl, hb10⟩; have HB10 := Lib.hid hb10; have e10 := Tb.block_kept HT9.out.p hb10; obtain ⟨r0, r1, r2, r3, r4⟩ := blk5 e10; have e11 := Tb.block_kept HZ9.out hb10; obtain ⟨z0, z1, z2, z3, z4⟩ := blk5 e11; have FZ := fro5 e11; have HE11 := Lib.hid e11; clear hb10 e10 e11))
                  refine bodyPost_ret (v := .tuple #[.agg #[.int .i64 0, .int .i64 0, .int .i64 0, .int .i64 0, .slice none 0 0], .int .i64 dd]) (by simp [results, Tryz.results8, go_sem, z0, z1, z2, z3, z4]) rfl ⟨?_, ?_⟩
                  · rw [HD0.out]
                    exact ⟨_, _, _, _, _, _, _, _, rfl, BF.nil _ _, HVV.out⟩
                  · exact (((((HBW9.out.trans (HB13.out.mono HBW9.out.size)).setCell (Nat.le_refl _) _).setCell (Nat.le_refl _) _).setCell (Nat.le_refl _) _).setCell (Nat.le_refl _) _).setCell (Nat.le_refl _) _
            · obtain ⟨rfl, rfl, h53⟩ := h52 hk1
              have e1 : (kk != 1) = true := by simpa using hk1
              have e0 : (kk == 1) = false := by simpa using hk1
              have HBF := Lib.hid (BF.nil w.heap.size W7)
              clear h51 h52 hxb
              cases hkd : kdB kk
              · rw [hkd, if_neg (by decide)] at h53
                have e2 : (kk != 2) = true := by have := kdB_no hkd; simp; omega
                by_cases he0 : e4' = 0
                · have te : (e4' == 0) = true := by simpa using he0
                  obtain rfl : er9 = 3 := by rw [h53, he0]; rfl
                  clear h53
                  go_upto_region 19 with fail
                  have HT9 := Lib.hid (HP7.out.err 3)
                  have HBF2 : Hid (BF w.heap.size (W7.setCell ⟨b, 2, none⟩ (.int .i64 3)) (.slice none 0 0) []) := BF.nil _ _
                  generalize hWx : W7.setCell ⟨b, 2, none⟩ (.int .i64 3) = Wx at HBF2 HT9 ⊢
                  clear hWx HBF p0 p1 p2 p3 p4 m0 mf FP HP7 te he0
                  have HBF := HBF2
                  obtain ⟨p0, p1, p2, p3, p4⟩ := blk5 HT9.out.p
                  have HZ9 := Lib.hid (HT9.out.old HZ3.out (by have := HBZ.out; omega))
                  have HBW9 : Hid (Below w.heap.size w Wx) := HB3.out.grown HT9.out.q.gr HB3.out.size (fun j hj => by cases hj; exact Nat.le_of_lt HBZ.out)
                  have HDG : Hid (∀ W, Below Wx.heap.size Wx W → Calls Tryz.prog 30 #[.pointer (some ⟨b, 0, none⟩)] W fun e w' => e = .returned (.int .i64 dd) ∧ Below W.heap.size W w') := fun W hW => by
                    have := (HT9.out.below hW).done
                    rw [← HDE.out] at this
                    exact this
                  by_cases hdd : dd = 0
                  · have hd1 : d = ee := by rw [HDX.out, if_pos hdd]
                    subst hdd
                    by_cases hee : ee = 0
                    · have hd0 : d = 0 := hd1.trans hee
                      rw [hee] at HPR
                      have HVV := Lib.hid (HVX.out hd0)
                      have HD0 := Lib.hid hd0
                      clear hd1 hee hd0
                      go_wp2_with (first
                      | (go_at_call 31; (with_reducible refine (HPR.out _).mono ?_); rintro e w11 ⟨rfl, rfl⟩)
                      | (go_at_call 30; (with_reducible refine (HDG.out _ HB10.out).mono ?_); rintro e w12 ⟨rfl, hb12⟩; have hb13 := HB10.out.trans (hb12.mono HB10.out.size); have HB13 := Lib.hid hb13; have e12 := Tb.block_kept HZ9.out hb13; obtain ⟨z0, z1, z2, z3, z4⟩ := blk5 e12; have FZ := fro5 e12; clear hb12 hb13 e12)
                      | (go_at_call 30; (with_reducible refine (HDG.out _ (Below.refl _ _)).mono ?_); rintro e w10 ⟨rfl, hb10⟩; have HB10 := Lib.hid hb10; have e10 := Tb.block_kept HT9.out.p hb10; obtain ⟨r0, r1, r2, r3, r4⟩ := blk5 e10; have e11 := Tb.block_kept HZ9.out hb10; obtain ⟨z0, z1, z2, z3, z4⟩ := blk5 e11; have FZ := fro5 e11; have HE11 := Lib.hid e11; clear hb10 e10 e11))
                      refine bodyPost_ret (v := .tuple #[.agg #[.int .i64 kk, .int .i64 ff, .int .i64 tt, .int .i64 nn, .slice none 0 0], .int .i64 0]) (by simp [results, Tryz.results8, go_sem, z0, z1, z2, z3, z4]) rfl ⟨?_, ?_⟩
                      · rw [HD0.out]
                        have hbf := bf_keptR (HBF.out.below HB10.out) HE11.out (Nat.le_refl _) (set5 w10 w.heap.size (.int .i64 kk) (.int .i64 ff) (.int .i64 tt) (.int .i64 nn) (.slice none 0 0))
                        first
                          | exact ⟨_, _, _, _, _, _, _, _, rfl, hbf, HVV.out⟩
                          | exact ⟨_, _, _, _, _, _, _, rfl, _, hbf, HVV.out⟩
                      · exact (((((HBW9.out.trans (HB10.out.mono HBW9.out.size)).setCell (Nat.le_refl _) _).setCell (Nat.le_refl _) _).setCell (Nat.le_refl _) _).setCell (Nat.le_refl _) _).setCell (Nat.le_refl _) _
                    · have h5 : ee = 5 := (endE_two ff tt).elim (fun h => absurd (HK9.out.trans h) hee) (fun h => HK9.out.trans h)
                      have hd5 : d = 5 := hd1.trans h5
                      have HVV := Lib.hid (HV0.out (by rw [hd5]; decide))
                      have HD0 := Lib.hid hd5
                      rw [h5] at HPR
                      clear hd1 hee h5 hd5
                      go_wp2_with (first
                      | (go_at_call 31; (with_reducible refine (HPR.out _).mono ?_); rintro e w11 ⟨rfl, rfl⟩)
                      | (go_at_call 30; (with_reducible refine (HDG.out _ HB10.out).mono ?_); rintro e w12 ⟨rfl, hb12⟩; have hb13 := HB10.out.trans (hb12.mono HB10.out.size); have HB13 := Lib.hid hb13; have e12 := Tb.block_kept HZ9.out hb13; obtain ⟨z0, z1, z2, z3, z4⟩ := blk5 e12; have FZ := fro5 e12; clear hb12 hb13 e12)
                      | (go_at_call 30; (with_reducible refine (HDG.out _ (Below.refl _ _)).mono ?_); rintro e w10 ⟨rfl, hb10⟩; have HB10 := Lib.hid hb10; have e10 := Tb.block_kept HT9.out.p hb10; obtain ⟨r0, r1, r2, r3, r4⟩ := blk5 e10; have e11 := Tb.block_kept HZ9.out hb10; obtain ⟨z0, z1, z2, z3, z4⟩ := blk5 e11; have FZ := fro5 e11; have HE11 := Lib.hid e11; clear hb10 e10 e11))
                      refine bodyPost_ret (v := .tuple #[.agg #[.int .i64 0, .int .i64 0, .int .i64 0, .int .i64 0, .slice none 0 0], .int .i64 5]) (by simp [results, Tryz.results8, go_sem, z0, z1, z2, z3, z4]) rfl ⟨?_, ?_⟩
                      · rw [HD0.out]
                        exact ⟨_, _, _, _, _, _, _, _, rfl, BF.nil _ _, HVV.out⟩
                      · exact (((((HBW9.out.trans (HB10.out.mono HBW9.out.size)).setCell (Nat.le_refl _) _).setCell (Nat.le_refl _) _).setCell (Nat.le_refl _) _).setCell (Nat.le_refl _) _).setCell (Nat.le_refl _) _
                  · have hd1 : d = dd := by rw [HDX.out, if_neg hdd]
                    have HVV := Lib.hid (HV0.out (by rw [hd1]; exact hdd))
                    have HD0 := Lib.hid hd1
                    clear hd1
                    go_wp2_with (first
                      | (go_at_call 31; (with_reducible refine (HPR.out _).mono ?_); rintro e w11 ⟨rfl, rfl⟩)
                      | (go_at_call 30; (with_reducible refine (HDG.out _ HB10.out).mono ?_); rintro e w12 ⟨rfl, hb12⟩; have hb13 := HB10.out.trans (hb12.mono HB10.out.size); have HB13 := Lib.hid hb13; have e12 := Tb.block_kept HZ9.out hb13; obtain ⟨z0, z1, z2, z3, z4⟩ := blk5 e12; have FZ := fro5 e12; clear hb12 hb13 e12)
                      | (go_at_call 30; (with_reducible refine (HDG.out _ (Below.refl _ _)).mono ?_); rintro e w10 ⟨rfl, hb10⟩; have HB10 := Lib.hid hb10; have e10 := Tb.block_kept HT9.out.p hb10; obtain ⟨r0, r1, r2, r3, r4⟩ := blk5 e10; have e11 := Tb.block_kept HZ9.out hb10; obtain ⟨z0, z1, z2, z3, z4⟩ := blk5 e11; have FZ := fro5 e11; have HE11 := Lib.hid e11; clear hb10 e10 e11))
                    refine bodyPost_ret (v := .tuple #[.agg #[.int .i64 0, .int .i64 0, .int .i64 0, .int .i64 0, .slice none 0 0], .int .i64 dd]) (by simp [results, Tryz.results8, go_sem, z0, z1, z2, z3, z4]) rfl ⟨?_, ?_⟩
                    · rw [HD0.out]
                      exact ⟨_, _, _, _, _, _, _, _, rfl, BF.nil _ _, HVV.out⟩
                    · exact (((((HBW9.out.trans (HB13.out.mono HBW9.out.size)).setCell (Nat.le_refl _) _).setCell (Nat.le_refl _) _).setCell (Nat.le_refl _) _).setCell (Nat.le_refl _) _).setCell (Nat.le_refl _) _
                · have te : (e4' == 0) = false := by simpa using he0
                  obtain rfl : er9 = e4' := by rw [h53]; unfold Oc.errB; rw [if_neg he0]
                  clear h53
                  go_upto_region 19 with fail
                  have HT9 := HP7
                  generalize hWx : W7 = Wx at HBF HT9 p0 p1 p2 p3 p4 m0 mf FP ⊢
                  clear hWx
                  have HZ9 := Lib.hid (HT9.out.old HZ3.out (by have := HBZ.out; omega))
                  have HBW9 : Hid (Below w.heap.size w Wx) := HB3.out.grown HT9.out.q.gr HB3.out.size (fun j hj => by cases hj; exact Nat.le_of_lt HBZ.out)
                  have HDG : Hid (∀ W, Below Wx.heap.size Wx W → Calls Tryz.prog 30 #[.pointer (some ⟨b, 0, none⟩)] W fun e w' => e = .returned (.int .i64 dd) ∧ Below W.heap.size W w') := fun W hW => by
                    have := (HT9.out.below hW).done
                    rw [← HDE.out] at this
                    exact this
                  by_cases hdd : dd = 0
                  · have hd1 : d = ee := by rw [HDX.out, if_pos hdd]
                    subst hdd
                    by_cases hee : ee = 0
                    · have hd0 : d = 0 := hd1.trans hee
                      rw [hee] at HPR
                      have HVV := Lib.hid (HVX.out hd0)
                      have HD0 := Lib.hid hd0
                      clear hd1 hee hd0
                      go_wp2_with (first
                      | (go_at_call 31; (with_reducible refine (HPR.out _).mono ?_); rintro e w11 ⟨rfl, rfl⟩)
                      | (go_at_call 30; (with_reducible refine (HDG.out _ HB10.out).mono ?_); rintro e w12 ⟨rfl, hb12⟩; have hb13 := HB10.out.trans (hb12.mono HB10.out.size); have HB13 := Lib.hid hb13; have e12 := Tb.block_kept HZ9.out hb13; obtain ⟨z0, z1, z2, z3, z4⟩ := blk5 e12; have FZ := fro5 e12; clear hb12 hb13 e12)
                      | (go_at_call 30; (with_reducible refine (HDG.out _ (Below.refl _ _)).mono ?_); rintro e w10 ⟨rfl, hb10⟩; have HB10 := Lib.hid hb10; have e10 := Tb.block_kept HT9.out.p hb10; obtain ⟨r0, r1, r2, r3, r4⟩ := blk5 e10; have e11 := Tb.block_kept HZ9.out hb10; obtain ⟨z0, z1, z2, z3, z4⟩ := blk5 e11; have FZ := fro5 e11; have HE11 := Lib.hid e11; clear hb10 e10 e11))
                      refine bodyPost_ret (v := .tuple #[.agg #[.int .i64 kk, .int .i64 ff, .int .i64 tt, .int .i64 nn, .slice none 0 0], .int .i64 0]) (by simp [results, Tryz.results8, go_sem, z0, z1, z2, z3, z4]) rfl ⟨?_, ?_⟩
                      · rw [HD0.out]
                        have hbf := bf_keptR (HBF.out.below HB10.out) HE11.out (Nat.le_refl _) (set5 w10 w.heap.size (.int .i64 kk) (.int .i64 ff) (.int .i64 tt) (.int .i64 nn) (.slice none 0 0))
                        first
                          | exact ⟨_, _, _, _, _, _, _, _, rfl, hbf, HVV.out⟩
                          | exact ⟨_, _, _, _, _, _, _, rfl, _, hbf, HVV.out⟩
                      · exact (((((HBW9.out.trans (HB10.out.mono HBW9.out.size)).setCell (Nat.le_refl _) _).setCell (Nat.le_refl _) _).setCell (Nat.le_refl _) _).setCell (Nat.le_refl _) _).setCell (Nat.le_refl _) _
                    · have h5 : ee = 5 := (endE_two ff tt).elim (fun h => absurd (HK9.out.trans h) hee) (fun h => HK9.out.trans h)
                      have hd5 : d = 5 := hd1.trans h5
                      have HVV := Lib.hid (HV0.out (by rw [hd5]; decide))
                      have HD0 := Lib.hid hd5
                      rw [h5] at HPR
                      clear hd1 hee h5 hd5
                      go_wp2_with (first
                      | (go_at_call 31; (with_reducible refine (HPR.out _).mono ?_); rintro e w11 ⟨rfl, rfl⟩)
                      | (go_at_call 30; (with_reducible refine (HDG.out _ HB10.out).mono ?_); rintro e w12 ⟨rfl, hb12⟩; have hb13 := HB10.out.trans (hb12.mono HB10.out.size); have HB13 := Lib.hid hb13; have e12 := Tb.block_kept HZ9.out hb13; obtain ⟨z0, z1, z2, z3, z4⟩ := blk5 e12; have FZ := fro5 e12; clear hb12 hb13 e12)
                      | (go_at_call 30; (with_reducible refine (HDG.out _ (Below.refl _ _)).mono ?_); rintro e w10 ⟨rfl, hb10⟩; have HB10 := Lib.hid hb10; have e10 := Tb.block_kept HT9.out.p hb10; obtain ⟨r0, r1, r2, r3, r4⟩ := blk5 e10; have e11 := Tb.block_kept HZ9.out hb10; obtain ⟨z0, z1, z2, z3, z4⟩ := blk5 e11; have FZ := fro5 e11; have HE11 := Lib.hid e11; clear hb10 e10 e11))
                      refine bodyPost_ret (v := .tuple #[.agg #[.int .i64 0, .int .i64 0, .int .i64 0, .int .i64 0, .slice none 0 0], .int .i64 5]) (by simp [results, Tryz.results8, go_sem, z0, z1, z2, z3, z4]) rfl ⟨?_, ?_⟩
                      · rw [HD0.out]
                        exact ⟨_, _, _, _, _, _, _, _, rfl, BF.nil _ _, HVV.out⟩
                      · exact (((((HBW9.out.trans (HB10.out.mono HBW9.out.size)).setCell (Nat.le_refl _) _).setCell (Nat.le_refl _) _).setCell (Nat.le_refl _) _).setCell (Nat.le_refl _) _).setCell (Nat.le_refl _) _
                  · have hd1 : d = dd := by rw [HDX.out, if_neg hdd]
                    have HVV := Lib.hid (HV0.out (by rw [hd1]; exact hdd))
                    have HD0 := Lib.hid hd1
                    clear hd1
                    go_wp2_with (first
                      | (go_at_call 31; (with_reducible refine (HPR.out _).mono ?_); rintro e w11 ⟨rfl, rfl⟩)
                      | (go_at_call 30; (with_reducible refine (HDG.out _ HB10.out).mono ?_); rintro e w12 ⟨rfl, hb12⟩; have hb13 := HB10.out.trans (hb12.mono HB10.out.size); have HB13 := Lib.hid hb13; have e12 := Tb.block_kept HZ9.out hb13; obtain ⟨z0, z1, z2, z3, z4⟩ := blk5 e12; have FZ := fro5 e12; clear hb12 hb13 e12)
                      | (go_at_call 30; (with_reducible refine (HDG.out _ (Below.refl _ _)).mono ?_); rintro e w10 ⟨rfl, hb10⟩; have HB10 := Lib.hid hb10; have e10 := Tb.block_kept HT9.out.p hb10; obtain ⟨r0, r1, r2, r3, r4⟩ := blk5 e10; have e11 := Tb.block_kept HZ9.out hb10; obtain ⟨z0, z1, z2, z3, z4⟩ := blk5 e11; have FZ := fro5 e11; have HE11 := Lib.hid e11; clear hb10 e10 e11))
                    refine bodyPost_ret (v := .tuple #[.agg #[.int .i64 0, .int .i64 0, .int .i64 0, .int .i64 0, .slice none 0 0], .int .i64 dd]) (by simp [results, Tryz.results8, go_sem, z0, z1, z2, z3, z4]) rfl ⟨?_, ?_⟩
                    · rw [HD0.out]
                      exact ⟨_, _, _, _, _, _, _, _, rfl, BF.nil _ _, HVV.out⟩
                    · exact (((((HBW9.out.trans (HB13.out.mono HBW9.out.size)).setCell (Nat.le_refl _) _).setCell (Nat.le_refl _) _).setCell (Nat.le_refl _) _).setCell (Nat.le_refl _) _).setCell (Nat.le_refl _) _
              · rw [hkd, if_pos rfl] at h53
                obtain rfl : er9 = e4' := h53
                obtain rfl : kk = 2 := (kdB_yes hkd).resolve_left hk1
                by_cases he0 : er9 = 0
                · have te : (er9 == 0) = true := by simpa using he0
                  go_upto_region 19 with fail
                  have HT9 := HP7
                  generalize hWx : W7 = Wx at HBF HT9 p0 p1 p2 p3 p4 m0 mf FP ⊢
                  clear hWx
                  have HZ9 := Lib.hid (HT9.out.old HZ3.out (by have := HBZ.out; omega))
                  have HBW9 : Hid (Below w.heap.size w Wx) := HB3.out.grown HT9.out.q.gr HB3.out.size (fun j hj => by cases hj; exact Nat.le_of_lt HBZ.out)
                  have HDG : Hid (∀ W, Below Wx.heap.size Wx W → Calls Tryz.prog 30 #[.pointer (some ⟨b, 0, none⟩)] W fun e w' => e = .returned (.int .i64 dd) ∧ Below W.heap.size W w') := fun W hW => by
                    have := (HT9.out.below hW).done
                    rw [← HDE.out] at this
                    exact this
                  by_cases hdd : dd = 0
                  · have hd1 : d = ee := by rw [HDX.out, if_pos hdd]
                    subst hdd
                    by_cases hee : ee = 0
                    · have hd0 : d = 0 := hd1.trans hee
                      rw [hee] at HPR
                      have HVV := Lib.hid (HVX.out hd0)
                      have HD0 := Lib.hid hd0
                      clear hd1 hee hd0
                      go_wp2_with (first
                      | (go_at_call 31; (with_reducible refine (HPR.out _).mono ?_); rintro e w11 ⟨rfl, rfl⟩)
                      | (go_at_call 30; (with_reducible refine (HDG.out _ HB10.out).mono ?_); rintro e w12 ⟨rfl, hb12⟩; have hb13 := HB10.out.trans (hb12.mono HB10.out.size); have HB13 := Lib.hid hb13; have e12 := Tb.block_kept HZ9.out hb13; obtain ⟨z0, z1, z2, z3, z4⟩ := blk5 e12; have FZ := fro5 e12; clear hb12 hb13 e12)
                      | (go_at_call 30; (with_reducible refine (HDG.out _ (Below.refl _ _)).mono ?_); rintro e w10 ⟨rfl, hb10⟩; have HB10 := Lib.hid hb10; have e10 := Tb.block_kept HT9.out.p hb10; obtain ⟨r0, r1, r2, r3, r4⟩ := blk5 e10; have e11 := Tb.block_kept HZ9.out hb10; obtain ⟨z0, z1, z2, z3, z4⟩ := blk5 e11; have FZ := fro5 e11; have HE11 := Lib.hid e11; clear hb10 e10 e11))
                      refine bodyPost_ret (v := .tuple #[.agg #[.int .i64 2, .int .i64 ff, .int .i64 tt, .int .i64 nn, .slice none 0 0], .int .i64 0]) (by simp [results, Tryz.results8, go_sem, z0, z1, z2, z3, z4]) rfl ⟨?_, ?_⟩
                      · rw [HD0.out]
                        have hbf := bf_keptR (HBF.out.below HB10.out) HE11.out (Nat.le_refl _) (set5 w10 w.heap.size (.int .i64 2) (.int .i64 ff) (.int .i64 tt) (.int .i64 nn) (.slice none 0 0))
                        first
                          | exact ⟨_, _, _, _, _, _, _, _, rfl, hbf, HVV.out⟩
                          | exact ⟨_, _, _, _, _, _, _, rfl, _, hbf, HVV.out⟩
                      · exact (((((HBW9.out.trans (HB10.out.mono HBW9.out.size)).setCell (Nat.le_refl _) _).setCell (Nat.le_refl _) _).setCell (Nat.le_refl _) _).setCell (Nat.le_refl _) _).setCell (Nat.le_refl _) _
                    · have h5 : ee = 5 := (endE_two ff tt).elim (fun h => absurd (HK9.out.trans h) hee) (fun h => HK9.out.trans h)
                      have hd5 : d = 5 := hd1.trans h5
                      have HVV := Lib.hid (HV0.out (by rw [hd5]; decide))
                      have HD0 := Lib.hid hd5
                      rw [h5] at HPR
                      clear hd1 hee h5 hd5
                      go_wp2_with (first
                      | (go_at_call 31; (with_reducible refine (HPR.out _).mono ?_); rintro e w11 ⟨rfl, rfl⟩)
                      | (go_at_call 30; (with_reducible refine (HDG.out _ HB10.out).mono ?_); rintro e w12 ⟨rfl, hb12⟩; have hb13 := HB10.out.trans (hb12.mono HB10.out.size); have HB13 := Lib.hid hb13; have e12 := Tb.block_kept HZ9.out hb13; obtain ⟨z0, z1, z2, z3, z4⟩ := blk5 e12; have FZ := fro5 e12; clear hb12 hb13 e12)
                      | (go_at_call 30; (with_reducible refine (HDG.out _ (Below.refl _ _)).mono ?_); rintro e w10 ⟨rfl, hb10⟩; have HB10 := Lib.hid hb10; have e10 := Tb.block_kept HT9.out.p hb10; obtain ⟨r0, r1, r2, r3, r4⟩ := blk5 e10; have e11 := Tb.block_kept HZ9.out hb10; obtain ⟨z0, z1, z2, z3, z4⟩ := blk5 e11; have FZ := fro5 e11; have HE11 := Lib.hid e11; clear hb10 e10 e11))
                      refine bodyPost_ret (v := .tuple #[.agg #[.int .i64 0, .int .i64 0, .int .i64 0, .int .i64 0, .slice none 0 0], .int .i64 5]) (by simp [results, Tryz.results8, go_sem, z0, z1, z2, z3, z4]) rfl ⟨?_, ?_⟩
                      · rw [HD0.out]
                        exact ⟨_, _, _, _, _, _, _, _, rfl, BF.nil _ _, HVV.out⟩
                      · exact (((((HBW9.out.trans (HB10.out.mono HBW9.out.size)).setCell (Nat.le_refl _) _).setCell (Nat.le_refl _) _).setCell (Nat.le_refl _) _).setCell (Nat.le_refl _) _).setCell (Nat.le_refl _) _
                  · have hd1 : d = dd := by rw [HDX.out, if_neg hdd]
                    have HVV := Lib.hid (HV0.out (by rw [hd1]; exact hdd))
                    have HD0 := Lib.hid hd1
                    clear hd1
                    go_wp2_with (first
                      | (go_at_call 31; (with_reducible refine (HPR.out _).mono ?_); rintro e w11 ⟨rfl, rfl⟩)
                      | (go_at_call 30; (with_reducible refine (HDG.out _ HB10.out).mono ?_); rintro e w12 ⟨rfl, hb12⟩; have hb13 := HB10.out.trans (hb12.mono HB10.out.size); have HB13 := Lib.hid hb13; have e12 := Tb.block_kept HZ9.out hb13; obtain ⟨z0, z1, z2, z3, z4⟩ := blk5 e12; have FZ := fro5 e12; clear hb12 hb13 e12)
                      | (go_at_call 30; (with_reducible refine (HDG.out _ (Below.refl _ _)).mono ?_); rintro e w10 ⟨rfl, hb10⟩; have HB10 := Lib.hid hb10; have e10 := Tb.block_kept HT9.out.p hb10; obtain ⟨r0, r1, r2, r3, r4⟩ := blk5 e10; have e11 := Tb.block_kept HZ9.out hb10; obtain ⟨z0, z1, z2, z3, z4⟩ := blk5 e11; have FZ := fro5 e11; have HE11 := Lib.hid e11; clear hb10 e10 e11))
                    refine bodyPost_ret (v := .tuple #[.agg #[.int .i64 0, .int .i64 0, .int .i64 0, .int .i64 0, .slice none 0 0], .int .i64 dd]) (by simp [results, Tryz.results8, go_sem, z0, z1, z2, z3, z4]) rfl ⟨?_, ?_⟩
                    · rw [HD0.out]
                      exact ⟨_, _, _, _, _, _, _, _, rfl, BF.nil _ _, HVV.out⟩
                    · exact (((((HBW9.out.trans (HB13.out.mono HBW9.out.size)).setCell (Nat.le_refl _) _).setCell (Nat.le_refl _) _).setCell (Nat.le_refl _) _).setCell (Nat.le_refl _) _).setCell (Nat.le_refl _) _
                · have te : (er9 == 0) = false := by simpa using he0
                  go_upto_region 19 with fail
                  have HT9 := HP7
                  generalize hWx : W7 = Wx at HBF HT9 p0 p1 p2 p3 p4 m0 mf FP ⊢
                  clear hWx
                  have HZ9 := Lib.hid (HT9.out.old HZ3.out (by have := HBZ.out; omega))
                  have HBW9 : Hid (Below w.heap.size w Wx) := HB3.out.grown HT9.out.q.gr HB3.out.size (fun j hj => by cases hj; exact Nat.le_of_lt HBZ.out)
                  have HDG : Hid (∀ W, Below Wx.heap.size Wx W → Calls Tryz.prog 30 #[.pointer (some ⟨b, 0, none⟩)] W fun e w' => e = .returned (.int .i64 dd) ∧ Below W.heap.size W w') := fun W hW => by
                    have := (HT9.out.below hW).done
                    rw [← HDE.out] at this
                    exact this
                  by_cases hdd : dd = 0
                  · have hd1 : d = ee := by rw [HDX.out, if_pos hdd]
                    subst hdd
                    by_cases hee : ee = 0
                    · have hd0 : d = 0 := hd1.trans hee
                      rw [hee] at HPR
                      have HVV := Lib.hid (HVX.out hd0)
                      have HD0 := Lib.hid hd0
                      clear hd1 hee hd0
                      go_wp2_with (first
                      | (go_at_call 31; (with_reducible refine (HPR.out _).mono ?_); rintro e w11 ⟨rfl, rfl⟩)
                      | (go_at_call 30; (with_reducible refine (HDG.out _ HB10.out).mono ?_); rintro e w12 ⟨rfl, hb12⟩; have hb13 := HB10.out.trans (hb12.mono HB10.out.size); have HB13 := Lib.hid hb13; have e12 := Tb.block_kept HZ9.out hb13; obtain ⟨z0, z1, z2, z3, z4⟩ := blk5 e12; have FZ := fro5 e12; clear hb12 hb13 e12)
                      | (go_at_call 30; (with_reducible refine (HDG.out _ (Below.refl _ _)).mono ?_); rintro e w10 ⟨rfl, hb10⟩; have HB10 := Lib.hid hb10; have e10 := Tb.block_kept HT9.out.p hb10; obtain ⟨r0, r1, r2, r3, r4⟩ := blk5 e10; have e11 := Tb.block_kept HZ9.out hb10; obtain ⟨z0, z1, z2, z3, z4⟩ := blk5 e11; have FZ := fro5 e11; have HE11 := Lib.hid e11; clear hb10 e10 e11))
                      refine bodyPost_ret (v := .tuple #[.agg #[.int .i64 2, .int .i64 ff, .int .i64 tt, .int .i64 nn, .slice none 0 0], .int .i64 0]) (by simp [results, Tryz.results8, go_sem, z0, z1, z2, z3, z4]) rfl ⟨?_, ?_⟩
                      · rw [HD0.out]
                        have hbf := bf_keptR (HBF.out.below HB10.out) HE11.out (Nat.le_refl _) (set5 w10 w.heap.size (.int .i64 2) (.int .i64 ff) (.int .i64 tt) (.int .i64 nn) (.slice none 0 0))
                        first
                          | exact ⟨_, _, _, _, _, _, _, _, rfl, hbf, HVV.out⟩
                          | exact ⟨_, _, _, _, _, _, _, rfl, _, hbf, HVV.out⟩
                      · exact (((((HBW9.out.trans (HB10.out.mono HBW9.out.size)).setCell (Nat.le_refl _) _).setCell (Nat.le_refl _) _).setCell (Nat.le_refl _) _).setCell (Nat.le_refl _) _).setCell (Nat.le_refl _) _
                    · have h5 : ee = 5 := (endE_two ff tt).elim (fun h => absurd (HK9.out.trans h) hee) (fun h => HK9.out.trans h)
                      have hd5 : d = 5 := hd1.trans h5
                      have HVV := Lib.hid (HV0.out (by rw [hd5]; decide))
                      have HD0 := Lib.hid hd5
                      rw [h5] at HPR
                      clear hd1 hee h5 hd5
                      go_wp2_with (first
                      | (go_at_call 31; (with_reducible refine (HPR.out _).mono ?_); rintro e w11 ⟨rfl, rfl⟩)
                      | (go_at_call 30; (with_reducible refine (HDG.out _ HB10.out).mono ?_); rintro e w12 ⟨rfl, hb12⟩; have hb13 := HB10.out.trans (hb12.mono HB10.out.size); have HB13 := Lib.hid hb13; have e12 := Tb.block_kept HZ9.out hb13; obtain ⟨z0, z1, z2, z3, z4⟩ := blk5 e12; have FZ := fro5 e12; clear hb12 hb13 e12)
                      | (go_at_call 30; (with_reducible refine (HDG.out _ (Below.refl _ _)).mono ?_); rintro e w10 ⟨rfl, hb10⟩; have HB10 := Lib.hid hb10; have e10 := Tb.block_kept HT9.out.p hb10; obtain ⟨r0, r1, r2, r3, r4⟩ := blk5 e10; have e11 := Tb.block_kept HZ9.out hb10; obtain ⟨z0, z1, z2, z3, z4⟩ := blk5 e11; have FZ := fro5 e11; have HE11 := Lib.hid e11; clear hb10 e10 e11))
                      refine bodyPost_ret (v := .tuple #[.agg #[.int .i64 0, .int .i64 0, .int .i64 0, .int .i64 0, .slice none 0 0], .int .i64 5]) (by simp [results, Tryz.results8, go_sem, z0, z1, z2, z3, z4]) rfl ⟨?_, ?_⟩
                      · rw [HD0.out]
                        exact ⟨_, _, _, _, _, _, _, _, rfl, BF.nil _ _, HVV.out⟩
                      · exact (((((HBW9.out.trans (HB10.out.mono HBW9.out.size)).setCell (Nat.le_refl _) _).setCell (Nat.le_refl _) _).setCell (Nat.le_refl _) _).setCell (Nat.le_refl _) _).setCell (Nat.le_refl _) _
                  · have hd1 : d = dd := by rw [HDX.out, if_neg hdd]
                    have HVV := Lib.hid (HV0.out (by rw [hd1]; exact hdd))
                    have HD0 := Lib.hid hd1
                    clear hd1
                    go_wp2_with (first
                      | (go_at_call 31; (with_reducible refine (HPR.out _).mono ?_); rintro e w11 ⟨rfl, rfl⟩)
                      | (go_at_call 30; (with_reducible refine (HDG.out _ HB10.out).mono ?_); rintro e w12 ⟨rfl, hb12⟩; have hb13 := HB10.out.trans (hb12.mono HB10.out.size); have HB13 := Lib.hid hb13; have e12 := Tb.block_kept HZ9.out hb13; obtain ⟨z0, z1, z2, z3, z4⟩ := blk5 e12; have FZ := fro5 e12; clear hb12 hb13 e12)
                      | (go_at_call 30; (with_reducible refine (HDG.out _ (Below.refl _ _)).mono ?_); rintro e w10 ⟨rfl, hb10⟩; have HB10 := Lib.hid hb10; have e10 := Tb.block_kept HT9.out.p hb10; obtain ⟨r0, r1, r2, r3, r4⟩ := blk5 e10; have e11 := Tb.block_kept HZ9.out hb10; obtain ⟨z0, z1, z2, z3, z4⟩ := blk5 e11; have FZ := fro5 e11; have HE11 := Lib.hid e11; clear hb10 e10 e11))
                    refine bodyPost_ret (v := .tuple #[.agg #[.int .i64 0, .int .i64 0, .int .i64 0, .int .i64 0, .slice none 0 0], .int .i64 dd]) (by simp [results, Tryz.results8, go_sem, z0, z1, z2, z3, z4]) rfl ⟨?_, ?_⟩
                    · rw [HD0.out]
                      exact ⟨_, _, _, _, _, _, _, _, rfl, BF.nil _ _, HVV.out⟩
                    · exact (((((HBW9.out.trans (HB13.out.mono HBW9.out.size)).setCell (Nat.le_refl _) _).setCell (Nat.le_refl _) _).setCell (Nat.le_refl _) _).setCell (Nat.le_refl _) _).setCell (Nat.le_refl _) _
  · have hdE : d = E := by rw [HD.out]; unfold pkE; rw [if_neg (by unfold opE; rw [if_neg (fun h7 => he (HEE.out.trans h7.1)), ← HEE.out]; exact he)]; unfold opE; rw [if_neg (fun h7 => he (HEE.out.trans h7.1)), ← HEE.out]
    have HDE := Lib.hid hdE
    have HVV := Lib.hid (HV0.out (by rw [hdE]; exact he))
    clear hdE hform hE hN hB hkb h hb hb0 hlq
    go_enter Tryz.func8, Tryz.ntmps8
    go_wp2_with (go_at_call 26; (with_reducible refine HNX.out.mono ?_); rintro e w1 ⟨⟨A1, c1, rfl, _, _⟩, hb1⟩; have HB1 := Lib.hid (HB0.out.trans (hb1.mono HB0.out.size)); have E8 := Tb.block_kept HE0.out hb1; have FZ := fro5 E8; obtain ⟨z0, z1, z2, z3, z4⟩ := blk5 E8; clear hb1)
    refine bodyPost_ret (v := .tuple #[.agg #[.int .i64 0, .int .i64 0, .int .i64 0, .int .i64 0, .slice none 0 0], .int .i64 E]) (by simp [results, Tryz.results8, go_sem, z0, z1, z2, z3, z4]) rfl ⟨⟨_, _, _, _, _, _, _, _, by rw [HDE.out], BF.nil _ _, HVV.out⟩, ?_⟩
    exact ((((HB1.out.setCell (Nat.le_refl _) _).setCell (Nat.le_refl _) _).setCell (Nat.le_refl _) _).setCell (Nat.le_refl _) _).setCell (Nat.le_refl _) _
end Go.Proofs.YtganokcmcdkdgaaGreat.Pi
