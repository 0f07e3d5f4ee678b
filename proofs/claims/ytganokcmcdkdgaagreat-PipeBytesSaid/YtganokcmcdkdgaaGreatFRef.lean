/-
  The contracts of the reference's word, number, Make and Next. Conditions: at most two million bytes.
-/
import Derived.Test.YtganokcmcdkdgaaGreatPZ18
namespace Go.Proofs.YtganokcmcdkdgaaGreat.Fr
open Go.RowKit

set_option maxRecDepth 100000 in
theorem rword_any (w : World) (n : Nat) (hn : n < 4294967296) :
    Calls Tryz.prog 72 #[.int .i64 (n : Int)] w fun e w' => e = .returned (.slice (some ⟨w.heap.size, 0, none⟩) 4 4) ∧ w'.ownsRow w.heap.size 5 1 (.slice (some ⟨w.heap.size, 0, none⟩) 4 4) (num4 n).length (bv (num4 n)) ∧ Below w.heap.size w w' := by
  obtain ⟨a, ha⟩ : ∃ a, a = n / 16777216 % 256 := ⟨_, rfl⟩
  obtain ⟨b, hb⟩ : ∃ b, b = n / 65536 % 256 := ⟨_, rfl⟩
  obtain ⟨c, hc⟩ : ∃ c, c = n / 256 % 256 := ⟨_, rfl⟩
  obtain ⟨d, hd⟩ : ∃ d, d = n % 256 := ⟨_, rfl⟩
  have HN : Hid (num4 n = [(a : Int), (b : Int), (c : Int), (d : Int)]) := by show _ = _; rw [ha, hb, hc, hd]; rfl
  have q1 : (n : Int) / 16777216 = (a : Int) := by omega
  have q2 : (n : Int) / 65536 % 256 = (b : Int) := by omega
  have q3 : (n : Int) / 256 % 256 = (c : Int) := by omega
  have q4 : (n : Int) % 256 = (d : Int) := by omega
  have e1 : (n : Int).tdiv 16777216 = (a : Int) := by rw [Int.tdiv_eq_ediv_of_nonneg (by omega)]; exact q1
  have e2 : ((n : Int).tdiv 65536).tmod 256 = (b : Int) := by rw [Int.tdiv_eq_ediv_of_nonneg (by omega), Int.tmod_eq_emod_of_nonneg (by omega)]; exact q2
  have e3 : ((n : Int).tdiv 256).tmod 256 = (c : Int) := by rw [Int.tdiv_eq_ediv_of_nonneg (by omega), Int.tmod_eq_emod_of_nonneg (by omega)]; exact q3
  have e4 : (n : Int).tmod 256 = (d : Int) := by rw [Int.tmod_eq_emod_of_nonneg (by omega)]; exact q4
  have k1 : a < 256 := by omega
  have k2 : b < 256 := by omega
  have k3 : c < 256 := by omega
  have k4 : d < 256 := by omega
  clear ha hb hc hd
  go_enter Tryz.func72, Tryz.ntmps72
  go_wp2
  go_ret
  refine ⟨rfl, ?_, (Below.refl _ w).alloc (Nat.le_refl _) _⟩
  rw [HN.out]
  exact World.ownsRow_lit w #[.int .u8 (a : Int), .int .u8 (b : Int), .int .u8 (c : Int), .int .u8 (d : Int)] 4 (Nat.le_refl _) (by unfold maxLen; omega) rfl
set_option maxRecDepth 100000 in
set_option maxHeartbeats 4000000 in
theorem rnumber_any (w : World) (A : Option Addr) (cap : Nat) (l : List Int) (h : BAt w (.slice A 4 cap) l) (hb : bok l) :
    Calls Tryz.prog 56 #[.slice A 4 cap] w fun e w' => e = .returned (.int .i64 (numF 0 l : Int)) ∧ Below w.heap.size w w' := by
  obtain ⟨g, o, rfl⟩ := h.place (by decide)
  have hl := h.len.1
  obtain ⟨a, b, c, d, rfl⟩ := list4 hl
  have c0 : w.cell? ⟨g, o, none⟩ = some (.int .u8 a) := by obtain ⟨g', o', h1, h2, _⟩ := h.cell 0 (by decide); cases h1; exact h2
  have c1 : w.cell? ⟨g, o + 1, none⟩ = some (.int .u8 b) := by obtain ⟨g', o', h1, h2, _⟩ := h.cell 1 (by decide); cases h1; exact h2
  have c2 : w.cell? ⟨g, o + 2, none⟩ = some (.int .u8 c) := by obtain ⟨g', o', h1, h2, _⟩ := h.cell 2 (by decide); cases h1; exact h2
  have c3 : w.cell? ⟨g, o + 3, none⟩ = some (.int .u8 d) := by obtain ⟨g', o', h1, h2, _⟩ := h.cell 3 (by decide); cases h1; exact h2
  have h0 := hb a (by simp); have h1 := hb b (by simp); have h2 := hb c (by simp); have h3 := hb d (by simp)
  obtain ⟨a0, a1⟩ := h0
  obtain ⟨b0, b1⟩ := h1
  obtain ⟨d0, d1⟩ := h3
  obtain ⟨x0, x1⟩ := h2
  have HN : Hid (((a * 256 + b) * 256 + c) * 256 + d = (numF 0 [a, b, c, d] : Int)) := by
    show _ = _
    simp only [numF]
    omega
  clear h hb hl
  go_enter Tryz.func56, Tryz.ntmps56
  go_wp2_with fail
  go_quiet (fail)
  go_wp2
  go_ret
  exact ⟨by rw [← HN.out]; rfl, below_drewN (Below.refl _ w) _⟩

set_option maxRecDepth 100000 in
set_option maxHeartbeats 4000000 in
theorem rmake_any (w : World) (A : Option Addr) (n cap q : Nat) (l : List Int) (h : BAt w (.slice A n cap) l) (hb : bok l) (hn : n ≤ 1048568) (hq : q = n + 8) :
    Calls Tryz.prog 40 #[.slice A n cap] w fun e w' => ∃ A' c', e = .returned (.slice A' q c') ∧ BAt w' (.slice A' q c') (frF l) ∧ Below w.heap.size w w' := by
  have hl := h.len.1
  obtain ⟨k, hk⟩ : ∃ k, k = n + 4 := ⟨_, rfl⟩
  obtain ⟨c, hc⟩ : ∃ c, c = crc (hd l) := ⟨_, rfl⟩
  have hc2 : c < 4294967296 := by rw [hc]; exact crc_lt _
  have H := Lib.hid h
  have HL : Hid (n = l.length ∧ k = n + 4 ∧ q = k + 4 ∧ c = crc (hd l)) := ⟨hl.symm, hk, by omega, hc⟩
  have HB := Lib.hid (hd_bok hb)
  have HP1 := Lib.hid (rword_any w n (by omega))
  clear h hb hl hk hc hq
  go_enter Tryz.func40, Tryz.ntmps40
  go_wp2_with (first
    | (at_builtin; refine Lib.wpList_append_run _ rfl _ _ 22 22 rfl _ _ rfl rfl _ _ HR4.out ?_)
    | (go_at_call 72; (with_reducible refine (rword_any w2 c hc2).mono ?_); rintro e w3 ⟨rfl, ho3, hb3⟩
       obtain ⟨A4, c4, w4, hr4, ho4, hg4⟩ := app_any w3 w.heap.size _ (hd l) (own_same HO2.out hb3) _ (num4 c) (BAt.of_own ho3) (by rw [num4_len, hd_len]; have := HL.out.1; omega) (Nat.le_trans HB2.out.size hb3.size)
       have h4 : (hd l).length + (num4 c).length = q := by rw [num4_len, hd_len]; have := HL.out; omega
       rw [h4] at hr4 ho4
       have HR4 := Lib.hid hr4
       have HA4 : Hid (BAt w4 (.slice A4 q c4) (frF l)) := by unfold frF; rw [← HL.out.2.2.2]; exact BAt.of_own ho4
       have HB4 : Hid (Below w.heap.size w w4) := (HB2.out.trans (hb3.mono HB2.out.size)).grown hg4 (Nat.le_trans HB2.out.size hb3.size) (fun j hj => ((own_same HO2.out hb3).lt j hj).1)
       clear ho3 hb3 hr4 ho4 hg4 h4)
    | (go_at_call 57; (with_reducible refine (HS2.out).mono ?_); rintro e w2' ⟨rfl, rfl⟩)
    | (at_builtin; refine Lib.wpList_append_run _ rfl _ _ 22 22 rfl _ _ rfl rfl _ _ HR2.out ?_)
    | (go_at_call 72; (with_reducible refine HP1.out.mono ?_); rintro e w1 ⟨rfl, ho1, hb1⟩
       obtain ⟨A2, c2, w2, hr2, ho2, hg2⟩ := app_any w1 w.heap.size _ (num4 n) ho1 (.slice A n cap) l (H.out.kept hb1) (by rw [num4_len]; have := HL.out.1; omega) hb1.size
       have h2 : (num4 n).length + l.length = k := by rw [num4_len]; have := HL.out; omega
       rw [h2] at hr2 ho2
       have HR2 := Lib.hid hr2
       have HO2 : Hid (w2.ownsRow w.heap.size 5 1 (.slice A2 k c2) (hd l).length (bv (hd l))) := by unfold hd; rw [← HL.out.1]; exact ho2
       have HB2 : Hid (Below w.heap.size w w2) := hb1.grown hg2 hb1.size (fun j hj => (ho1.lt j hj).1)
       have HS2 : Hid (Calls Tryz.prog 57 #[.slice A2 k c2] w2 fun e w' => e = .returned (.int .i64 (c : Int)) ∧ w2 = w') := by
         have h5 := rsum_any w2 _ _ (BAt.of_own HO2.out) HB.out (by rw [hd_len]; have := HL.out.1; omega)
         rw [← HL.out.2.2.2] at h5
         exact h5
       clear ho1 hb1 hr2 ho2 hg2 h2))
  go_ret
  exact ⟨A4, c4, rfl, HA4.out, HB4.out⟩

set_option maxRecDepth 100000 in
theorem rnext_short (K : Nat → Prop) (w : World) (A : Option Addr) (n cap : Nat) (l : List Int) (h : BAt w (.slice A n cap) l) (hn : n < 8) :
    Calls Tryz.prog 26 #[.slice A n cap] w fun e w' => FstK K l e w' ∧ Below w.heap.size w w' := by
  have hl := h.len.1
  have HF := Lib.hid (fst_badK (l := l) (x := 12) (by unfold nxE; rw [if_pos (by omega)]) (by decide) K)
  have t1 : (n : Int) < 8 := by omega
  clear h hl
  go_enter Tryz.func26, Tryz.ntmps26
  go_wp2
  go_ret3
  exact ⟨HF.out w, Below.refl _ _⟩
set_option maxRecDepth 100000 in
set_option maxHeartbeats 4000000 in
theorem rnext_more (K : Nat → Prop) (w : World) (A : Option Addr) (n cap : Nat) (l : List Int) (h : BAt w (.slice A n cap) l) (hb : bok l) (hn : 8 ≤ n) (hn2 : n ≤ 2000000) (hK : BK K (.slice A n cap) l) :
    Calls Tryz.prog 26 #[.slice A n cap] w fun e w' => FstK K l e w' ∧ Below w.heap.size w w' := by
  obtain ⟨hl, hcap⟩ := h.len
  obtain ⟨g, o, rfl⟩ := h.place (by omega)
  have HKG : Hid (K g) := hK (by omega) ⟨g, o, none⟩ n cap rfl
  clear hK
  obtain ⟨m, hm⟩ : ∃ m, m = nn l := ⟨_, rfl⟩
  have h4 := (h.take 4 (by omega)).1
  have hm2 : m < 4294967296 := by rw [hm]; exact numF_lt (by rw [List.length_take]; omega) (bok_take hb 4)
  have HN : Hid (Calls Tryz.prog 56 #[.slice (some ⟨g, o, none⟩) 4 cap] w fun e w' => e = .returned (.int .i64 (m : Int)) ∧ Below w.heap.size w w') := by
    have := rnumber_any w _ _ _ h4 (bok_take hb 4)
    rw [hm]; exact this
  have hs1 : ∀ W : World, (Instr.slice 22 (.slice (some ⟨g, o, none⟩) n cap) none (some (.int .i64 4)) none).run Tryz.prog W = .ok (.slice (some ⟨g, o, none⟩) 4 cap) W := slice_to _ n cap 4 (by omega)
  have t1 : ¬ (n : Int) < 8 := by omega
  by_cases hlong : 1048568 < m
  · have t2 : (1048568 : Int) < (m : Int) := by omega
    have HF := Lib.hid (fst_badK (l := l) (x := 2) (by unfold nxE; rw [if_neg (by omega), if_pos (by omega)]) (by decide) K)
    clear h hl hm h4
    go_enter Tryz.func26, Tryz.ntmps26
    go_wp2_with (go_at_call 56; refine HN.out.mono ?_; rintro e w1 ⟨rfl, b1⟩; have B1 := Lib.hid b1; clear b1)
    go_ret3
    exact ⟨HF.out w1, B1.out⟩
  have t2 : ¬ (1048568 : Int) < (m : Int) := by omega
  obtain ⟨q, hq⟩ : ∃ q, q = m + 4 := ⟨_, rfl⟩
  obtain ⟨r, hr⟩ : ∃ r, r = m + 8 := ⟨_, rfl⟩
  have e1 : (m : Int) + 4 = (q : Int) := by omega
  have e2 : (m : Int) + 8 = (r : Int) := by omega
  by_cases hend : n < r
  · have t3 : (n : Int) < (r : Int) := by omega
    have HF := Lib.hid (fst_badK (l := l) (x := 12) (by unfold nxE; rw [if_neg (by omega), if_neg (by omega), if_pos (by omega)]) (by decide) K)
    have b1 : r ≤ 1048576 := by omega
    clear h hl hm h4 hq hr
    go_enter Tryz.func26, Tryz.ntmps26
    go_wp2_with (go_at_call 56; refine HN.out.mono ?_; rintro e w1 ⟨rfl, b1⟩; have B1 := Lib.hid b1; clear b1)
    go_ret3
    exact ⟨HF.out w1, B1.out⟩
  have t3 : ¬ (n : Int) < (r : Int) := by omega
  have b1 : r ≤ 1048576 := by omega
  have k1 : IntKind.i64.wrap (q : Int) = (q : Int) := by rw [IntKind.wrap_i64]; omega
  have k2 : IntKind.i64.wrap (r : Int) = (r : Int) := by rw [IntKind.wrap_i64]; omega
  have hs2 : ∀ W : World, (Instr.slice 22 (.slice (some ⟨g, o, none⟩) n cap) (some (.int .i64 (q : Int))) (some (.int .i64 (r : Int))) none).run Tryz.prog W = .ok (.slice (some ⟨g, o + q, none⟩) 4 (cap - q)) W := fun W => by
    have := slice_mid g o n cap q r (by omega) (by omega) (by omega) W
    rw [show r - q = 4 by omega] at this
    exact this
  have hs3 := slice_to (some ⟨g, o, none⟩) n cap q (by omega)
  have hs5 : ∀ W : World, (Instr.slice 22 (.slice (some ⟨g, o, none⟩) n cap) (some (.int .i64 4)) (some (.int .i64 (q : Int))) none).run Tryz.prog W = .ok (.slice (some ⟨g, o + 4, none⟩) m (cap - 4)) W := fun W => by
    have := slice_mid g o n cap 4 q (by omega) (by omega) (by omega) W
    rw [show q - 4 = m by omega] at this
    exact this
  have htl : BAt w (.slice (some ⟨g, o + q, none⟩) 4 (cap - q)) (tail4 l) := by
    have h1 := h.mid q r (cap - q) (some ⟨g, o + q, none⟩) (fun _ => rfl) (by omega) (by omega) (by omega)
    rw [show r - q = 4 by omega] at h1
    unfold tail4
    rw [← hm, ← hq]
    exact h1
  have htk := (h.take q (by omega)).1
  have hbd : BAt w (.slice (some ⟨g, o + 4, none⟩) m (cap - 4)) ((l.drop 4).take m) := by
    have h1 := h.mid 4 q (cap - 4) (some ⟨g, o + 4, none⟩) (fun _ => rfl) (by omega) (by omega) (by omega)
    rw [show q - 4 = m by omega] at h1
    exact h1
  obtain ⟨z, hz⟩ : ∃ z, z = numF 0 (tail4 l) := ⟨_, rfl⟩
  obtain ⟨x, hx⟩ : ∃ x, x = crc (l.take q) := ⟨_, rfl⟩
  have HN2 : Hid (∀ W, Below w.heap.size w W → Calls Tryz.prog 56 #[.slice (some ⟨g, o + q, none⟩) 4 (cap - q)] W fun e w' => e = .returned (.int .i64 (z : Int)) ∧ Below W.heap.size W w') := by
    intro W hW
    rw [hz]
    exact rnumber_any W _ _ _ (htl.kept hW) (by unfold tail4; exact bok_take (bok_drop hb _) _)
  have HSM : Hid (∀ W, Below w.heap.size w W → Calls Tryz.prog 57 #[.slice (some ⟨g, o, none⟩) q cap] W fun e w' => e = .returned (.int .i64 (x : Int)) ∧ W = w') := by
    intro W hW
    rw [hx]
    exact rsum_any W _ _ (htk.kept hW) (bok_take hb q) (by rw [List.length_take]; omega)
  have HBD := Lib.hid hbd
  have HOK : Hid (z = x → nxE l = 0) := fun hzx => nxE_mk (by omega) (by omega) (by rw [← hz, hzx, hx, hq, hm])
  have HNO : Hid (¬ z = x → nxE l = 11) := fun hzx => by
    unfold nxE
    rw [if_neg (by omega), if_neg (by omega), if_neg (by omega), if_neg (by rw [← hz, ← hm, ← hq, ← hx]; exact hzx)]
  have HQ : Hid (m = nn l ∧ r = m + 8) := ⟨hm, hr⟩
  clear h hl hm h4 hq hr htl htk hbd hz hx
  by_cases hzx : z = x
  · subst hzx
    have HE := HOK.out rfl
    have HF : Hid (∀ W, Below w.heap.size w W → FstK K l (.returned (.tuple #[.slice (some ⟨g, o + 4, none⟩) m (cap - 4), .int .i64 (r : Int), .int .i64 0])) W) := fun W hW => by
      have e1 : nxB l = (l.drop 4).take m := by unfold nxB; rw [if_pos HE, HQ.out.1]
      have e2 : nxN l = r := by unfold nxN; rw [if_pos HE, ← HQ.out.1, HQ.out.2]
      have e3 := HBD.out.len.1
      rw [← e1] at e3
      exact ⟨_, _, by rw [e2, HE, e3], by rw [e3, e1]; exact HBD.out.kept hW, fun _ a n c ha => by
        cases ha
        exact HKG.out⟩
    clear HE
    go_enter Tryz.func26, Tryz.ntmps26
    go_wp2_with (go_at_call 56; refine HN.out.mono ?_; rintro e w1 ⟨rfl, b1⟩; have B1 := Lib.hid b1; have BD := Lib.hid b1.drew; clear b1)
    go_region_held3 (fun _ => True) (trivial)
      (first
        | (go_at_call 57; (with_reducible refine (HSM.out _ B2.out).mono ?_); rintro e w3 ⟨rfl, rfl⟩)
        | (go_at_call 57; (with_reducible refine (HSM.out _ BD.out).mono ?_); rintro e w3 ⟨rfl, rfl⟩)
        | (go_at_call 56; (with_reducible refine (HN2.out _ BD.out).mono ?_); rintro e w2 ⟨rfl, b2⟩; have B2 := Lib.hid (BD.out.trans (b2.mono BD.out.size)); clear b2))
    all_goals
      go_wp2
      go_ret3
      exact ⟨HF.out _ B2.out, B2.out⟩
  · have HF := Lib.hid (fst_badK (l := l) (x := 11) (HNO.out hzx) (by decide) K)
    have t4 : ¬ (x : Int) = (z : Int) := by omega
    clear HOK HNO
    go_enter Tryz.func26, Tryz.ntmps26
    go_wp2_with (go_at_call 56; refine HN.out.mono ?_; rintro e w1 ⟨rfl, b1⟩; have B1 := Lib.hid b1; have BD := Lib.hid b1.drew; clear b1)
    go_region_held3 (fun _ => True) (trivial)
      (first
        | (go_at_call 57; (with_reducible refine (HSM.out _ B2.out).mono ?_); rintro e w3 ⟨rfl, rfl⟩)
        | (go_at_call 57; (with_reducible refine (HSM.out _ BD.out).mono ?_); rintro e w3 ⟨rfl, rfl⟩)
        | (go_at_call 56; (with_reducible refine (HN2.out _ BD.out).mono ?_); rintro e w2 ⟨rfl, b2⟩; have B2 := Lib.hid (BD.out.trans (b2.mono BD.out.size)); clear b2))
    all_goals
      go_wp2
      go_ret3
      exact ⟨HF.out _, B2.out⟩
theorem rnext_in (K : Nat → Prop) (w : World) (v : Value) (l : List Int) (h : BAt w v l) (hb : bok l) (hn : l.length ≤ 2000000) (hK : BK K v l) : Calls Tryz.prog 26 #[v] w fun e w' => FstK K l e w' ∧ Below w.heap.size w w' := by
  obtain ⟨A, cap, h1, h2, h3⟩ := h
  subst h1
  by_cases h8 : l.length < 8
  · exact rnext_short K w A l.length cap l ⟨A, cap, rfl, h2, h3⟩ h8
  · exact rnext_more K w A l.length cap l ⟨A, cap, rfl, h2, h3⟩ hb (by omega) hn hK
theorem rnext_any (w : World) (v : Value) (l : List Int) (h : BAt w v l) (hb : bok l) (hn : l.length ≤ 2000000) : Calls Tryz.prog 26 #[v] w fun e w' => Fst l e w' ∧ Below w.heap.size w w' :=
  (rnext_in (fun _ => True) w v l h hb hn (fun _ _ _ _ _ => trivial)).mono fun _ _ h => ⟨h.1.fst, h.2⟩
end Go.Proofs.YtganokcmcdkdgaaGreat.Fr
