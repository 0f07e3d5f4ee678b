/-
  The contract of the program's read. Conditions: none.
-/
import Derived.Test.YtganokcmcdkdgaaGreatPZ17
namespace Go.Proofs.YtganokcmcdkdgaaGreat.Pi
open Go.RowKit

theorem bat_oc {w : World} {v : Value} {l : List Int} (h : Fr.BAt w v l) : Oc.BAt w v l := Jo.oc_at h
theorem bf_kept {N0 : Nat} {W W' : World} {v : Value} {l : List Int} {k : Nat} {cs : Array Value} {fr : Nat × Nat} (h : BF N0 W v l) (hk : W.heap[k]? = some (.cells cs 25 fr)) (hN : N0 ≤ k) (hw : Tb.Kept (fun i => i = k) W W') : BF N0 W' v l := by
  refine h.kept hw fun g hg e => ?_
  subst e
  rcases hg with h1 | ⟨t, cs', fr', h1, h2⟩
  · omega
  · rw [hk] at h1
    cases h1
    rcases h2 with h2 | h2 <;> cases h2
theorem set5 (W : World) (k : Nat) (y0 y1 y2 y3 y4 : Value) : Tb.Kept (fun i => i = k) W (((((W.setCell ⟨k, 0, none⟩ y0).setCell ⟨k, 1, none⟩ y1).setCell ⟨k, 2, none⟩ y2).setCell ⟨k, 3, none⟩ y3).setCell ⟨k, 4, none⟩ y4) :=
  ((((Tb.Kept.of_set W ⟨k, 0, none⟩ y0).trans (Tb.Kept.of_set _ ⟨k, 1, none⟩ y1)).trans (Tb.Kept.of_set _ ⟨k, 2, none⟩ y2)).trans (Tb.Kept.of_set _ ⟨k, 3, none⟩ y3)).trans (Tb.Kept.of_set _ ⟨k, 4, none⟩ y4)
/-- Bytes of a text that was read. -/
theorem str_len {x : List Int} : (Oc.strOf x).size = x.length := Oc.strOf_len x
theorem sb_both (s : ByteArray) : Fr.sb s = Oc.sb s := rfl
set_option maxRecDepth 100000 in
set_option maxHeartbeats 4000000 in
theorem read_l (N0 : Nat) (w : World) (hN0 : N0 ≤ w.heap.size) (b : Nat) (D : List Int) (hS : GS w b 0 D w) (e1 e2 e3 e4 x1 x2 x3 n : Int) (l1 l2 l3 l4 : List Int) (h1 : byteF 0 D = (e1, x1, l1)) (h2 : byteF e1 l1 = (e2, x2, l2)) (h3 : byteF e2 l2 = (e3, x3, l3)) (h4 : cntF 1099511627776 e3 l3 = (e4, n, l4))
    (r1 : 0 ≤ x1 ∧ x1 < 256) (r2 : 0 ≤ x2 ∧ x2 < 256) (r3 : 0 ≤ x3 ∧ x3 < 256) (e5 er : Int) (x r : List Int) (hkd : e5 = if kdB x1 = true then e4 else Oc.errB e4 3) (h5 : (er, x, r) = if x1 = 1 then txtF e5 l4 else (e5, [], l4)) (hxb : Oc.bok x) :
    Calls Tryz.prog 24 #[.pointer (some ⟨b, 0, none⟩)] w fun e w' => ∃ A q c, e = .returned (.agg #[.int .i64 x1, .int .i64 x2, .int .i64 x3, .int .i64 n, .slice A q c]) ∧ BF N0 w' (.slice A q c) x ∧ GS w b er r w' := by
  have hbl : b < w.heap.size := by obtain ⟨v, hv⟩ := hS.rd; exact hv.lt
  have HBL := Lib.hid hbl
  have HN0 := Lib.hid hN0
  clear hN0
  have HSA := Lib.hid (hS.al (.cells #[.int .i64 0, .int .i64 0, .int .i64 0, .int .i64 0, .slice none 0 0] 25))
  have HS0 := Lib.hid HSA.out.base
  have HE0 := Lib.hid (Tb.block_new w (.cells #[.int .i64 0, .int .i64 0, .int .i64 0, .int .i64 0, .slice none 0 0] 25))
  have t1 : IntKind.i64.wrap x1 = x1 := by rw [IntKind.wrap_i64]; omega
  have t2 : IntKind.i64.wrap x2 = x2 := by rw [IntKind.wrap_i64]; omega
  have t3 : IntKind.i64.wrap x3 = x3 := by rw [IntKind.wrap_i64]; omega
  have H1 := Lib.hid h1
  have H2 := Lib.hid h2
  have H3 := Lib.hid h3
  have H4 := Lib.hid h4
  have HKD := Lib.hid hkd
  have H5 := Lib.hid h5
  have HXB := Lib.hid hxb
  have HZ0 : Hid ((w.alloc (.cells #[.int .i64 0, .int .i64 0, .int .i64 0, .int .i64 0, .slice none 0 0] 25)).heap.size = w.heap.size + 1) := by show _ = _; simp
  clear hS h1 h2 h3 h4 hkd h5 hxb hbl
  go_enter Tryz.func24, Tryz.ntmps24
  go_upto_region 2 with (first
    | (go_at_call 52; (with_reducible refine (HS3.out.count 1099511627776 (by decide) (by decide) H4.out).mono ?_); rintro e w4 ⟨rfl, s⟩; have HS4 := Lib.hid s; clear s)
    | (go_at_call 51; (with_reducible refine (HS2.out.byte H3.out).mono ?_); rintro e w3 ⟨rfl, s⟩; have HS3 := Lib.hid s; clear s)
    | (go_at_call 51; (with_reducible refine (HS1.out.byte H2.out).mono ?_); rintro e w2 ⟨rfl, s⟩; have HS2 := Lib.hid s; clear s)
    | (go_at_call 51; (with_reducible refine (HS0.out.byte H1.out).mono ?_); rintro e w1 ⟨rfl, s⟩; have HS1 := Lib.hid s; clear s))
  have HBS : Hid (w.heap.size ≠ b) := Lib.hid (by have := HBL.out; omega)
  have HSZ : Hid (w.heap.size + 1 ≤ w4.heap.size) := Lib.hid (by have := HS4.out.gr.size; have := HZ0.out; omega)
  have HSP := Lib.hid (HS4.out.al (.cells #[.int .i64 x1, .int .i64 x2, .int .i64 x3, .int .i64 n, .slice none 0 0] 25)).base
  have HGP := Lib.hid (HSA.out.comp (HS4.out.al (.cells #[.int .i64 x1, .int .i64 x2, .int .i64 x3, .int .i64 n, .slice none 0 0] 25)))
  have HPB := Tb.block_new w4 (.cells #[.int .i64 x1, .int .i64 x2, .int .i64 x3, .int .i64 n, .slice none 0 0] 25)
  have HRB := (HS4.out.al (.cells #[.int .i64 x1, .int .i64 x2, .int .i64 x3, .int .i64 n, .slice none 0 0] 25)).blk HE0.out HBS.out
  have HPN : Hid (w4.heap.size ≠ b) := Lib.hid (by have := HBL.out; have := HSZ.out; omega)
  obtain ⟨wp, hwp⟩ : ∃ W, W = w4.alloc (.cells #[.int .i64 x1, .int .i64 x2, .int .i64 x3, .int .i64 n, .slice none 0 0] 25) := ⟨_, rfl⟩
  obtain ⟨bp, hbp⟩ : ∃ k, k = w4.heap.size := ⟨_, rfl⟩
  rw [← hwp] at HSP HGP HPB HRB ⊢
  rw [← hbp] at HSZ HPB HPN ⊢
  clear hwp hbp HS0 HS1 HS2 HS3 HS4 HSA HE0 HZ0 H1 H2 H3 H4
  have HI := Lib.hid (isKind_any wp x1)
  have HF := Lib.hid (HSP.out.fail 3)
  obtain ⟨p0, p1, p2, p3, p4⟩ := blk5 HPB
  have FP := fro5 HPB
  by_cases hx1 : x1 = 1
  · subst hx1
    obtain rfl : e5 = e4 := by have := HKD.out; rw [if_pos (by decide)] at this; exact this
    have HT := Lib.hid (HSP.out.text (show txtF e5 l4 = (er, x, r) by have := H5.out; rw [if_pos rfl] at this; exact this.symm))
    obtain ⟨cv, cw, hcv⟩ := str_new (Oc.strOf x)
    rw [str_len] at hcv
    have q1 := fun W => (hcv W N0).1
    have Q2 : Hid (∀ W, BF N0 (cw W) (.slice (some ⟨W.heap.size, 0, none⟩) x.length (cv W)) x ∧ Below W.heap.size W (cw W)) := Lib.hid (fun W => ⟨by have := (hcv W N0).2.1; rw [sb_both, Oc.sb_strOf HXB.out] at this; exact this, (hcv W N0).2.2⟩)
    obtain ⟨y, hy⟩ : ∃ y, y = Oc.strOf x := ⟨_, rfl⟩
    obtain ⟨m, hm⟩ : ∃ m, m = x.length := ⟨_, rfl⟩
    rw [← hy] at HT q1
    rw [← hm] at q1 Q2
    clear hcv hy hm HKD H5
    go_upto_region 6 with (first
      | (go_at_call 41; (with_reducible refine HI.out.mono ?_); rintro e w5 ⟨rfl, rfl⟩)
      | (go_at_call 54; (with_reducible refine HT.out.mono ?_); rintro e w5 ⟨rfl, s5⟩; have HG5 := Lib.hid (HGP.out.comp s5); have E5 := Tb.block_kept (s5.blk HPB HPN.out) (Q2.out w5).2; have E6 := Tb.block_kept (s5.blk HRB HBS.out) (Q2.out w5).2; have c6 := (blk5 E5).2.2.2.2; have f6 := fro5 E5; have HSZ5 := Lib.hid s5.gr.size; clear s5))
    have hne : w.heap.size ≠ bp := by have := HSZ.out; omega
    have hbp : b < bp := by have := HSZ.out; have := HBL.out; omega
    have hN1 : N0 ≤ bp := by have := HSZ.out; have := HN0.out; omega
    have E7 : ((cw w5).setCell ⟨bp, 4, none⟩ (.slice (some ⟨w5.heap.size, 0, none⟩) m (cv w5))).heap[bp]? = some (.cells #[.int .i64 1, .int .i64 x2, .int .i64 x3, .int .i64 n, .slice (some ⟨w5.heap.size, 0, none⟩) m (cv w5)] 25) := by
      simp only [World.setCell, Array.getElem?_modify, if_true]; rw [E5]; rfl
    have E8 : ((cw w5).setCell ⟨bp, 4, none⟩ (.slice (some ⟨w5.heap.size, 0, none⟩) m (cv w5))).heap[w.heap.size]? = some (.cells #[.int .i64 0, .int .i64 0, .int .i64 0, .int .i64 0, .slice none 0 0] 25) := by
      rw [Below.heap_setCell _ _ _ _ hne]; exact E6
    have HBF := Lib.hid (bf_kept (Q2.out w5).1 E5 hN1 (Tb.Kept.of_set (cw w5) ⟨bp, 4, none⟩ (.slice (some ⟨w5.heap.size, 0, none⟩) m (cv w5))))
    have HG := Lib.hid ((HG5.out.kept (Q2.out w5).2).set1 (c := bp) hbp (by have := HSZ.out; omega) 4 (.slice (some ⟨w5.heap.size, 0, none⟩) m (cv w5)))
    obtain ⟨r0, r1, r2, r3, r4⟩ := blk5 E7
    have FZ := fro5 E8; obtain ⟨z0, z1, z2, z3, z4⟩ := blk5 E8
    clear hne hbp hN1 E5 E6 E7 c6 f6 HG5 q1
    obtain ⟨W6, hW6⟩ : ∃ W, W = (cw w5).setCell ⟨bp, 4, none⟩ (.slice (some ⟨w5.heap.size, 0, none⟩) m (cv w5)) := ⟨_, rfl⟩
    rw [← hW6] at r0 r1 r2 r3 r4 z0 z1 z2 z3 z4 FZ HBF HG E8 ⊢
    clear hW6
    go_wp2
    refine bodyPost_ret (v := .agg #[.int .i64 1, .int .i64 x2, .int .i64 x3, .int .i64 n, .slice (some ⟨w5.heap.size, 0, none⟩) m (cv w5)]) (by simp [results, Tryz.results24, go_sem, z0, z1, z2, z3, z4]) rfl ⟨_, _, _, rfl, ?_, ?_⟩
    · exact bf_kept HBF.out E8 HN0.out (set5 _ _ _ _ _ _ _)
    · exact ((((HG.out.set1 HBL.out (Nat.le_refl _) 0 _).set1 HBL.out (Nat.le_refl _) 1 _).set1 HBL.out (Nat.le_refl _) 2 _).set1 HBL.out (Nat.le_refl _) 3 _).set1 HBL.out (Nat.le_refl _) 4 _
  · obtain ⟨rfl, rfl, rfl⟩ : er = e5 ∧ x = [] ∧ r = l4 := by have := H5.out; rw [if_neg hx1] at this; simpa using this
    have ex1 : (x1 == 1) = false := by simpa using hx1
    cases hk : kdB x1
    · obtain rfl : er = Oc.errB e4 3 := by have := HKD.out; rw [hk] at this; simpa using this
      rw [hk] at HI
      go_upto_region 6 with (first
        | (go_at_call 41; (with_reducible refine HI.out.mono ?_); rintro e w5 ⟨rfl, rfl⟩)
        | (go_at_call 53; (with_reducible refine HF.out.mono ?_); rintro e w5 ⟨rfl, s5⟩; have HG := Lib.hid (HGP.out.comp s5); have E7 := s5.blk HPB HPN.out; have E8 := s5.blk HRB HBS.out; obtain ⟨r0, r1, r2, r3, r4⟩ := blk5 E7; have FZ := fro5 E8; obtain ⟨z0, z1, z2, z3, z4⟩ := blk5 E8; clear s5))
      have HBF := Lib.hid (BF.nil N0 w5)
      go_wp2
      refine bodyPost_ret (v := .agg #[.int .i64 x1, .int .i64 x2, .int .i64 x3, .int .i64 n, .slice none 0 0]) (by simp [results, Tryz.results24, go_sem, z0, z1, z2, z3, z4]) rfl ⟨_, _, _, rfl, ?_, ?_⟩
      · exact bf_kept HBF.out E8 HN0.out (set5 _ _ _ _ _ _ _)
      · exact ((((HG.out.set1 HBL.out (Nat.le_refl _) 0 _).set1 HBL.out (Nat.le_refl _) 1 _).set1 HBL.out (Nat.le_refl _) 2 _).set1 HBL.out (Nat.le_refl _) 3 _).set1 HBL.out (Nat.le_refl _) 4 _
    · obtain rfl : er = e4 := by have := HKD.out; rw [hk] at this; simpa using this
      rw [hk] at HI
      have HG := HGP
      have E8 := HRB
      have FZ := fro5 E8; obtain ⟨z0, z1, z2, z3, z4⟩ := blk5 E8
      have HBF := Lib.hid (BF.nil N0 wp)
      obtain ⟨r0, r1, r2, r3, r4⟩ := blk5 HPB
      go_upto_region 6 with (first
        | (go_at_call 41; (with_reducible refine HI.out.mono ?_); rintro e w5 ⟨rfl, rfl⟩))
      go_wp2
      refine bodyPost_ret (v := .agg #[.int .i64 x1, .int .i64 x2, .int .i64 x3, .int .i64 n, .slice none 0 0]) (by simp [results, Tryz.results24, go_sem, z0, z1, z2, z3, z4]) rfl ⟨_, _, _, rfl, ?_, ?_⟩
      · exact bf_kept HBF.out E8 HN0.out (set5 _ _ _ _ _ _ _)
      · exact ((((HG.out.set1 HBL.out (Nat.le_refl _) 0 _).set1 HBL.out (Nat.le_refl _) 1 _).set1 HBL.out (Nat.le_refl _) 2 _).set1 HBL.out (Nat.le_refl _) 3 _).set1 HBL.out (Nat.le_refl _) 4 _
end Go.Proofs.YtganokcmcdkdgaaGreat.Pi
