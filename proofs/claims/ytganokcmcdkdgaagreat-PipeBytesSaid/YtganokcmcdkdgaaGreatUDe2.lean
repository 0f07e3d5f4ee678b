/-
  The contract of the program's Decode. Conditions: at most two million bytes.
-/
import Derived.Test.YtganokcmcdkdgaaGreatUDec
namespace Go.Proofs.YtganokcmcdkdgaaGreat.Pi
open Go.RowKit Fr

/-- What is wrong with the bytes G, and the packet if nothing is. -/
def pkE (G : List Int) : Int := if opE G = 0 then bodyE (opB G) else opE G
def pkV (G : List Int) : Int × Int × Int × Int × List Int := if pkE G = 0 then ((pkF (opB G)).k, (pkF (opB G)).f, (pkF (opB G)).t, (pkF (opB G)).n, (pkF (opB G)).x) else (0, 0, 0, 0, [])
def DecR (N : Nat) (G : List Int) (e : Ending) (w' : World) : Prop := ∃ k f t n A q c x, e = .returned (.tuple #[.agg #[.int .i64 k, .int .i64 f, .int .i64 t, .int .i64 n, .slice A q c], .int .i64 (pkE G)]) ∧ BF N w' (.slice A q c) x ∧ (k, f, t, n, x) = pkV G
theorem read_f (N0 : Nat) (w : World) (hN0 : N0 ≤ w.heap.size) (b : Nat) (D : List Int) (hS : GS w b 0 D w) (hb : Oc.bok D) :
    Calls Tryz.prog 24 #[.pointer (some ⟨b, 0, none⟩)] w fun e w' => ∃ A q c, e = .returned (.agg #[.int .i64 (pkF D).k, .int .i64 (pkF D).f, .int .i64 (pkF D).t, .int .i64 (pkF D).n, .slice A q c]) ∧ BF N0 w' (.slice A q c) (pkF D).x ∧ GS w b (pkF D).er (pkF D).r w' :=
  read_l N0 w hN0 b D hS (b1 D).1 (b2 D).1 (b3 D).1 (b4 D).1 (b1 D).2.1 (b2 D).2.1 (b3 D).2.1 (b4 D).2.1 (b1 D).2.2 (b2 D).2.2 (b3 D).2.2 (b4 D).2.2 rfl rfl rfl rfl (byte_rng hb) (byte_rng (byte_bok hb)) (byte_rng (byte_bok (byte_bok hb))) (e4 D) (b5 D).1 (b5 D).2.1 (b5 D).2.2 rfl rfl (b5_bok hb)
theorem op_bok {G : List Int} (hb : bok G) : bok (opB G) := by
  unfold opB
  split
  · exact fun x hx => hb x (List.mem_of_mem_drop (List.mem_of_mem_take hx))
  · intro x hx; cases hx
theorem op_len {G : List Int} : (opB G).length ≤ G.length := by
  unfold opB
  split
  · rw [List.length_take, List.length_drop]; omega
  · simp
set_option maxRecDepth 100000 in
set_option maxHeartbeats 8000000 in
theorem decode_any (w : World) (A : Option Addr) (q c : Nat) (G : List Int) (h : BAt w (.slice A q c) G) (hb : bok G) (hq : q ≤ 2000000) :
    Calls Tryz.prog 7 #[.slice A q c] w fun e w' => DecR w.heap.size G e w' ∧ Below w.heap.size w w' := by
  have hl := h.len.1
  have hb0 : Below w.heap.size w (w.alloc (.cells #[.int .i64 0, .int .i64 0, .int .i64 0, .int .i64 0, .slice none 0 0] 25)) := (Below.refl _ w).alloc (Nat.le_refl _) _
  obtain ⟨m, hm⟩ : ∃ m, m = (opB G).length := ⟨_, rfl⟩
  obtain ⟨E, hE⟩ : ∃ E, E = opE G := ⟨_, rfl⟩
  have HO := Lib.hid (open_at (w.alloc (.cells #[.int .i64 0, .int .i64 0, .int .i64 0, .int .i64 0, .slice none 0 0] 25)) A q c m E G (opB G) (h.kept hb0) hb hq rfl hm.symm hE.symm)
  have HBO : Hid (bok (opB G) ∧ (opB G).length ≤ 2000000) := ⟨op_bok hb, Nat.le_trans op_len (by omega)⟩
  have HB0 := Lib.hid hb0
  have HE0 := Lib.hid (Tb.block_new w (.cells #[.int .i64 0, .int .i64 0, .int .i64 0, .int .i64 0, .slice none 0 0] 25))
  obtain ⟨d, hd⟩ : ∃ d, d = pkE G := ⟨_, rfl⟩
  have HD := Lib.hid hd
  have HE := Lib.hid hE
  unfold DecR
  rw [← hd]
  clear h hb hl hb0 hm hE hd hq
  by_cases he : E = 0
  · subst he
    have HD2 : Hid (d = bodyE (opB G)) := by have := HD.out; unfold pkE at this; rw [if_pos HE.out.symm] at this; exact this
    obtain ⟨B, hB⟩ : ∃ B, B = opB G := ⟨_, rfl⟩
    rw [← hB] at HO HBO HD2
    have HBB := Lib.hid hB
    obtain ⟨kk, hkk⟩ : ∃ kk, kk = (pkF B).k := ⟨_, rfl⟩
    obtain ⟨ff, hff⟩ : ∃ ff, ff = (pkF B).f := ⟨_, rfl⟩
    obtain ⟨tt, htt⟩ : ∃ tt, tt = (pkF B).t := ⟨_, rfl⟩
    obtain ⟨nn, hnn⟩ : ∃ nn, nn = (pkF B).n := ⟨_, rfl⟩
    obtain ⟨dd, hdd⟩ : ∃ dd, dd = Oc.doneE (pkF B).er (pkF B).r := ⟨_, rfl⟩
    obtain ⟨ee, hee⟩ : ∃ ee, ee = endE (pkF B).f (pkF B).t := ⟨_, rfl⟩
    have HDD : Hid (d = if dd = 0 then ee else dd) := by rw [hdd, hee]; exact HD2.out
    have HRD : Hid (∀ W b, w.heap.size ≤ W.heap.size → GS W b 0 B W → Calls Tryz.prog 24 #[.pointer (some ⟨b, 0, none⟩)] W fun e w' => ∃ A q c, e = .returned (.agg #[.int .i64 kk, .int .i64 ff, .int .i64 tt, .int .i64 nn, .slice A q c]) ∧ BF w.heap.size w' (.slice A q c) (pkF B).x ∧ GS W b (pkF B).er (pkF B).r w') := by
      rw [hkk, hff, htt, hnn]
      exact fun W b h1 h2 => read_f _ W h1 b B h2 HBO.out.1
    have HDN : Hid (∀ W0 W b, GS W0 b (pkF B).er (pkF B).r W → Calls Tryz.prog 25 #[.pointer (some ⟨b, 0, none⟩)] W fun e w' => e = .returned (.int .i64 dd) ∧ W = w') := fun W0 W b hg => by
      rw [hdd]
      obtain ⟨v, hv⟩ := hg.rd
      exact Oc.rdone_any W b _ _ v hv
    have HCE : Hid (∀ W, Calls Tryz.prog 16 #[.int .i64 ff, .int .i64 tt] W fun e w' => e = .returned (.int .i64 ee) ∧ Below W.heap.size W w') := fun W => by
      rw [hff, htt, hee]; exact check_any W _ _
    have HV : Hid (∀ x, x = (pkF B).x → d = 0 → (kk, ff, tt, nn, x) = pkV G) := fun x hx hd => by
      unfold pkV
      rw [← HD.out, if_pos hd, hx, hkk, hff, htt, hnn, HBB.out]
    clear hB hkk hff htt hnn hdd hee HD2
    go_enter Tryz.func7, Tryz.ntmps7
    go_upto_region 4 with (go_at_call 22; (with_reducible refine HO.out.mono ?_); rintro e w1 ⟨A1, c1, rfl, hb1, hbel1⟩; have HB1 := Lib.hid (And.intro hb1 hbel1); clear hb1 hbel1)
    have HRDX := Lib.hid (Oc.read_any w1 _ B (bat_oc HB1.out.1) HBO.out.1 HBO.out.2)
    go_upto_region 6 with (first
      | (go_at_call 24; (with_reducible refine HR3.out.mono ?_); rintro e w3 ⟨A3, q3, c3, rfl, hbf, hg3⟩
         have HBF := Lib.hid hbf
         have HG3 := Lib.hid hg3
         clear hbf hg3)
      | (go_at_call 23; (with_reducible refine HRDX.out.mono ?_); rintro e w2 ⟨b, u, rfl, hbz, hr, hbl⟩
         have HBZ := Lib.hid hbz
         have HB2 := Lib.hid hbl
         have HR3 := Lib.hid (HRD.out w2 b (Nat.le_trans HB0.out.size (Nat.le_trans HB1.out.2.size hbl.size)) ⟨⟨u, hr⟩, Oc.grownBy_refl _ _⟩)
         clear hr hbl hbz))
    have HBW3 : Hid (Below w.heap.size w w3) := by
      have h1 : Below w.heap.size w w2 := HB0.out.trans ((HB1.out.2.trans (HB2.out.mono HB1.out.2.size)).mono HB0.out.size)
      exact h1.grown HG3.out.gr h1.size (fun j hj => by cases hj; exact Nat.le_trans (Nat.le_trans HB0.out.size HB1.out.2.size) HBZ.out)
    have hz1 : w.heap.size + 1 = (w.alloc (.cells #[.int .i64 0, .int .i64 0, .int .i64 0, .int .i64 0, .slice none 0 0] 25)).heap.size := by simp
    have hne : w.heap.size ≠ b := by have := HBZ.out; have := HB1.out.2.size; omega
    have HZB := Lib.hid (Tb.block_old (HG3.out.blk (Tb.block_kept (Tb.block_kept HE0.out HB1.out.2) HB2.out) hne) (.cells #[.int .i64 kk, .int .i64 ff, .int .i64 tt, .int .i64 nn, .slice A3 q3 c3] 25))
    have HPB := Lib.hid (Tb.block_new w3 (.cells #[.int .i64 kk, .int .i64 ff, .int .i64 tt, .int .i64 nn, .slice A3 q3 c3] 25))
    have hal : Below w3.heap.size w3 (w3.alloc (.cells #[.int .i64 kk, .int .i64 ff, .int .i64 tt, .int .i64 nn, .slice A3 q3 c3] 25)) := (Below.refl _ w3).alloc (Nat.le_refl _) _
    have HBW := Lib.hid (HBW3.out.trans (hal.mono HBW3.out.size))
    have HBV := Lib.hid (HBF.out.below hal)
    have HGW := Lib.hid (HG3.out.al (.cells #[.int .i64 kk, .int .i64 ff, .int .i64 tt, .int .i64 nn, .slice A3 q3 c3] 25))
    obtain ⟨bp, hbp⟩ : ∃ k, k = w3.heap.size := ⟨_, rfl⟩
    obtain ⟨wp, hwp⟩ : ∃ W, W = w3.alloc (.cells #[.int .i64 kk, .int .i64 ff, .int .i64 tt, .int .i64 nn, .slice A3 q3 c3] 25) := ⟨_, rfl⟩
    rw [← hwp] at HZB HPB HBW HBV HGW ⊢
    rw [← hbp] at HPB ⊢
    clear hz1 hal hne hwp hbp HG3 HBF HBW3 HB1 HB2 HBZ HRDX HR3 HRD HE0 HO HBO
    have hdr : Below wp.heap.size wp wp.drew := (Below.refl _ _).drew
    obtain ⟨_, y1, y2, _⟩ := blk5 (Tb.block_kept HPB.out hdr)
    have HDR := Lib.hid hdr
    have HDN2 := Lib.hid (HDN.out _ _ _ (HGW.out.kept hdr))
    have HOR : Hid (∀ W : World, Calls Tryz.prog 14 #[.slice (some ⟨W.heap.size, 0, none⟩) 2 2] (W.alloc (.cells #[.int .i64 dd, .int .i64 ee] 28)) fun e w' => e = .returned (.int .i64 d) ∧ w' = W.alloc (.cells #[.int .i64 dd, .int .i64 ee] 28)) := fun W => by
      rw [HDD.out]; exact or_two W dd ee
    clear hdr HDN
    go_region_held3 (fun w' => w'.cell? ⟨bp, 1, none⟩ = some (.int .i64 ff) ∧ w'.cell? ⟨bp, 2, none⟩ = some (.int .i64 tt)) (first | exact ⟨y1, y2⟩ | exact ⟨y3, y4⟩ | exact ⟨y5, y6⟩)
      (first
        | (go_at_call 25; (with_reducible refine HDN2.out.mono ?_); rintro e w5 ⟨rfl, rfl⟩)
        | (go_at_call 16; (with_reducible refine (HCE.out _).mono ?_); rintro e w6 ⟨rfl, hb6⟩; have HB6 := Lib.hid hb6; have e6 := Tb.block_kept HPB.out (HDR.out.trans (hb6.mono HDR.out.size)); obtain ⟨_, y3, y4, _⟩ := blk5 e6; obtain ⟨_, y5, y6, _⟩ := blk5 (Tb.block_old e6 (.cells #[.int .i64 dd, .int .i64 ee] 28)); clear e6 hb6)
        | (go_at_call 14; (with_reducible refine (HOR.out _).mono ?_); rintro e w7 ⟨rfl, rfl⟩))
    all_goals
      have hk := HDR.out.trans (HB6.out.mono HDR.out.size)
      have hk2 := hk.trans (((Below.refl _ w6).alloc (Nat.le_refl _) (.cells #[.int .i64 dd, .int .i64 ee] 28)).mono hk.size)
      obtain ⟨r0, r1, r2, r3, r4⟩ := blk5 (Tb.block_kept HPB.out hk2)
      have E8 := Tb.block_kept HZB.out hk2
      have FZ := fro5 E8
      obtain ⟨z0, z1, z2, z3, z4⟩ := blk5 E8
      have HBX := Lib.hid (HBV.out.below hk2)
      have HBY := Lib.hid (HBW.out.trans (hk2.mono HBW.out.size))
      have HX8 := Lib.hid E8
      clear hk hk2 y1 y2 y3 y4 y5 y6 E8
      by_cases hd0 : d = 0
      · have HVV := Lib.hid (HV.out _ rfl hd0)
        subst hd0
        go_wp2
        refine bodyPost_ret (v := .tuple #[.agg #[.int .i64 kk, .int .i64 ff, .int .i64 tt, .int .i64 nn, .slice A3 q3 c3], .int .i64 0]) (by simp [results, Tryz.results7, go_sem, z0, z1, z2, z3, z4]) rfl ⟨⟨kk, ff, tt, nn, A3, q3, c3, rfl, (pkF B).x, bf_kept HBX.out HX8.out (Nat.le_refl _) (set5 _ _ _ _ _ _ _), HVV.out⟩, ?_⟩
        exact ((((HBY.out.setCell (Nat.le_refl _) _).setCell (Nat.le_refl _) _).setCell (Nat.le_refl _) _).setCell (Nat.le_refl _) _).setCell (Nat.le_refl _) _
      · have HVV : Hid ((0, 0, 0, 0, []) = pkV G) := by unfold pkV; rw [← HD.out, if_neg hd0]; rfl
        go_wp2
        refine bodyPost_ret (v := .tuple #[.agg #[.int .i64 0, .int .i64 0, .int .i64 0, .int .i64 0, .slice none 0 0], .int .i64 d]) (by simp [results, Tryz.results7, go_sem, z0, z1, z2, z3, z4]) rfl ⟨⟨_, _, _, _, _, _, _, _, rfl, BF.nil _ _, HVV.out⟩, ?_⟩
        exact ((((HBY.out.setCell (Nat.le_refl _) _).setCell (Nat.le_refl _) _).setCell (Nat.le_refl _) _).setCell (Nat.le_refl _) _).setCell (Nat.le_refl _) _
  · have hdE : d = E := by rw [HD.out]; unfold pkE; rw [← HE.out, if_neg he]
    have HDE := Lib.hid hdE
    have HVV : Hid ((0, 0, 0, 0, []) = pkV G) := by unfold pkV; rw [← HD.out, if_neg (by rw [hdE]; exact he)]; rfl
    clear hdE HBO
    go_enter Tryz.func7, Tryz.ntmps7
    go_wp2_with (go_at_call 22; (with_reducible refine HO.out.mono ?_); rintro e w1 ⟨A1, c1, rfl, hb1, hbel1⟩; have HB1 := Lib.hid (HB0.out.trans (hbel1.mono HB0.out.size)); have E8 := Tb.block_kept HE0.out hbel1; have FZ := fro5 E8; obtain ⟨z0, z1, z2, z3, z4⟩ := blk5 E8; clear hb1 hbel1)
    refine bodyPost_ret (v := .tuple #[.agg #[.int .i64 0, .int .i64 0, .int .i64 0, .int .i64 0, .slice none 0 0], .int .i64 E]) (by simp [results, Tryz.results7, go_sem, z0, z1, z2, z3, z4]) rfl ⟨⟨_, _, _, _, _, _, _, _, by rw [HDE.out], BF.nil _ _, HVV.out⟩, ?_⟩
    exact ((((HB1.out.setCell (Nat.le_refl _) _).setCell (Nat.le_refl _) _).setCell (Nat.le_refl _) _).setCell (Nat.le_refl _) _).setCell (Nat.le_refl _) _
end Go.Proofs.YtganokcmcdkdgaaGreat.Pi
