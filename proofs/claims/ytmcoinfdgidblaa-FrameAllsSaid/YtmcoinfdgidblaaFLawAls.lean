/-
  FrameAlls answers true for all bytes and every number. Conditions: none.
-/
import Derived.Test.YtmcoinfdgidblaaFAlsI
namespace Go.Proofs.Ytmcoinfdgidblaa.Fr
open Go.RowKit Go.Shelf
attribute [local go_sem] Oper.semAt_some

set_option maxRecDepth 100000 in
set_option maxHeartbeats 8000000 in
theorem law_alls (w : World) (A : Option Addr) (n c : Nat) (l : List Int) (h : BAt w (.slice A n c) l) (hb : bok l) (x : Int) :
    Calls Try.prog 5 #[.slice A n c, .int .i64 x] w fun e w' => e = .returned (.bool true) ∧ Below w.heap.size w w' := by
  obtain ⟨m, hm⟩ : ∃ m, m = min n 800 := ⟨_, rfl⟩
  have hcap := h.len.2
  have hs := slice_to A n c m (by omega)
  have htk := (h.take m (by omega)).1
  have hlm := (h.take m (by omega)).2.1
  obtain ⟨L, hL⟩ : ∃ L, L = l.take m := ⟨_, rfl⟩
  rw [← hL] at htk hlm
  have hbL : bok L := by rw [hL]; exact bok_take hb m
  have hmin : (if (800 : Int) < (n : Int) then 800 else (n : Int)) = (m : Int) := by split <;> omega
  have hw0 : 0 ≤ IntKind.u64.wrap x := by rw [IntKind.wrap_u64]; omega
  obtain ⟨k, hk⟩ : ∃ k : Nat, (IntKind.u64.wrap x).tmod 12 = (k : Int) := ⟨((IntKind.u64.wrap x).tmod 12).toNat, by rw [Int.tmod_eq_emod_of_nonneg hw0]; omega⟩
  have hk11 : k ≤ 11 := by rw [Int.tmod_eq_emod_of_nonneg hw0] at hk; omega
  obtain ⟨st, hst⟩ : ∃ st, st = 1 + k := ⟨_, rfl⟩
  have e1 : 1 + (k : Int) = (st : Int) := by omega
  have hst1 : 1 ≤ st := by omega
  have hst2 : st ≤ 12 := by omega
  obtain ⟨N, hN⟩ : ∃ N, N = (allF L).length := ⟨_, rfl⟩
  have HN := Lib.hid hN.symm
  have hN2 : N ≤ 800 := by have := allF_len L; omega
  have HT := Lib.hid htk
  have HD : Hid (bok L ∧ L.length = m ∧ m ≤ 800) := ⟨hbL, hlm, by omega⟩
  have hm2 : m ≤ 800 := by omega
  clear h hb hcap htk hlm hL hbL hm hw0 hst hN
  refine (callsIn_wide (n := 9)).1 ?_
  refine callsIn_of_wp_marks Try.func5 rfl trivial ?_ rfl
  simp only [Try.ntmps5, List.size_toArray, List.length_cons, List.length_nil, Nat.reduceAdd, Nat.reduceSub, Array.replicate_succ, Array.replicate_zero, List.push_toArray, List.append_toArray, List.nil_append, List.cons_append]
  have HB0 : Hid (Below w.heap.size w (w.alloc (.cells #[.int .i64 x] 3))) := (Below.refl _ w).alloc (Nat.le_refl _) _
  gi_wp2_with (first
    | (refine ⟨trivial, ?_⟩; gi_at_call 18; refine (callsIn_wide.2 (all_any _ A m c L (HT.out.kept HB3.out) (by omega))).mono ?_; rintro e w4 ⟨A3, c3, Bs, rfl, hlo, hbs, hba, hbk, hb4⟩
       have H4 := Lib.hid (And.intro hlo (And.intro hbs (And.intro hba (And.intro hbk hb4))))
       clear hlo hbs hba hbk hb4)
    | (refine ⟨trivial, ?_⟩; gi_at_call 17; refine (callsIn_wide.2 (rall_at _ A m c N L (HT.out.kept HBS.out) HD.out.1 (by omega) HN.out)).mono ?_; rintro e w2 ⟨A1, c1, A2, c2, us, q, rfl, hI⟩
       have HI := Lib.hid hI
       have HB3 : Hid (Below w.heap.size w ((((w2.alloc (.cells #[.slice A1 N c1] 40)).alloc (.cells #[.slice A2 N c2] 22)).alloc (.cells #[.int .i64 0] 3)).alloc (.cells #[.bool true] 4))) := ((((HBS.out.trans (hI.bel.mono HBS.out.size)).alloc (Nat.le_trans HBS.out.size hI.bel.size) _).alloc (by have h1 := HBS.out.size; have h2 := hI.bel.size; simp; omega) _).alloc (by have h1 := HBS.out.size; have h2 := hI.bel.size; simp; omega) _).alloc (by have h1 := HBS.out.size; have h2 := hI.bel.size; simp; omega) _
       clear hI)
    | (refine ⟨trivial, ?_⟩; gi_at_call 10; refine (callsIn_wide.2 (known_any _)).mono ?_; rintro e w1 ⟨rfl, b1⟩
       have d0 : w1.cell? ⟨w.heap.size, 0, none⟩ = some (.int .i64 x) := (b1.cell (p := ⟨w.heap.size, 0, none⟩) (by simp)).trans (block_cell (block_new w _)).1
       have f0 : w1.frozen? ⟨w.heap.size, 0, none⟩ = false := (b1.frozen (p := ⟨w.heap.size, 0, none⟩) (by simp)).trans (block_cell (block_new w _)).2
       have HBX : Hid (w1.heap[w.heap.size]? = some (.cells #[.int .i64 x] 3 (0, 0))) := block_kept (block_new w _) b1
       have HB1 : Hid (Below w.heap.size w w1) := HB0.out.trans (b1.mono (by simp))
       have HBS : Hid (Below w.heap.size w (w1.setCell ⟨w.heap.size, 0, none⟩ (.int .i64 (st : Int)))) := HB1.out.setCell (p := ⟨w.heap.size, 0, none⟩) (Nat.le_refl _) _
       clear b1))
  obtain ⟨hlo, hbs, hba, hbk, hb4⟩ := H4.out
  obtain ⟨wS, hwS⟩ : ∃ wS, wS = w1.setCell ⟨w.heap.size, 0, none⟩ (.int .i64 (st : Int)) := ⟨_, rfl⟩
  have hwb : Below w.heap.size w wS := by rw [hwS]; exact HBS.out
  have hI := HI.out
  rw [← hwS] at hI
  have hzS : w.heap.size < wS.heap.size := by rw [hwS]; have := (Array.getElem?_eq_some_iff.1 HBX.out).1; simp [World.setCell]; exact this
  have kS : Boxed wS w.heap.size 3 (.int .i64 (st : Int)) := by rw [hwS]; exact block_put HBX.out _
  have hz2 := hI.bel.size
  have k2 : Boxed w2 w.heap.size 3 (.int .i64 (st : Int)) := boxed_kept kS hI.bel
  obtain ⟨w3, hw3⟩ : ∃ w3, w3 = ((((w2.alloc (.cells #[.slice A1 N c1] 40)).alloc (.cells #[.slice A2 N c2] 22)).alloc (.cells #[.int .i64 0] 3)).alloc (.cells #[.bool true] 4)) := ⟨_, rfl⟩
  have hz3 : w3.heap.size = w2.heap.size + 1 + 1 + 1 + 1 := by rw [hw3]; simp
  have hB23 : Below w2.heap.size w2 w3 := by rw [hw3]; exact ((((Below.refl _ w2).alloc (Nat.le_refl _) _).alloc (by simp) _).alloc (by simp; omega) _).alloc (by simp; omega) _
  have x5 : Boxed w3 w2.heap.size 40 (.slice A1 N c1) := by rw [hw3]; exact (((Boxed.new w2 _ _).alloc _).alloc _).alloc _
  have x6 : Boxed w3 (w2.heap.size + 1) 22 (.slice A2 N c2) := by
    rw [hw3]
    have := Boxed.new (w2.alloc (.cells #[.slice A1 N c1] 40)) 22 (.slice A2 N c2)
    rw [World.size_alloc] at this
    exact (this.alloc _).alloc _
  have x7 : Boxed w3 (w2.heap.size + 1 + 1) 3 (.int .i64 0) := by
    rw [hw3]
    have := Boxed.new ((w2.alloc (.cells #[.slice A1 N c1] 40)).alloc (.cells #[.slice A2 N c2] 22)) 3 (.int .i64 0)
    rw [World.size_alloc, World.size_alloc] at this
    exact this.alloc _
  have x9 : Boxed w3 (w2.heap.size + 1 + 1 + 1) 4 (.bool true) := by
    rw [hw3]
    have := Boxed.new (((w2.alloc (.cells #[.slice A1 N c1] 40)).alloc (.cells #[.slice A2 N c2] 22)).alloc (.cells #[.int .i64 0] 3)) 4 (.bool true)
    rw [World.size_alloc, World.size_alloc, World.size_alloc] at this
    exact this
  rw [← hw3] at hlo hbk hb4
  have hz4 := hb4.size
  have y0 := boxed_kept (boxed_kept k2 hB23) hb4
  have y5 := boxed_kept x5 hb4
  have y6 := boxed_kept x6 hb4
  have y7 := boxed_kept x7 hb4
  have y9 := boxed_kept x9 hb4
  have hB24 : Below w2.heap.size w2 w4 := hB23.trans (hb4.mono (by omega))
  have hB04 : Below w.heap.size w w4 := (hwb.trans (hI.bel.mono (by omega))).trans (hB24.mono (by omega))
  obtain ⟨b9, hb9⟩ : ∃ b9, b9 = w2.heap.size + 1 + 1 + 1 := ⟨_, rfl⟩
  obtain ⟨b7, hb7⟩ : ∃ b7, b7 = w2.heap.size + 1 + 1 := ⟨_, rfl⟩
  obtain ⟨b6, hb6⟩ : ∃ b6, b6 = w2.heap.size + 1 := ⟨_, rfl⟩
  obtain ⟨b5, hb5⟩ : ∃ b5, b5 = w2.heap.size := ⟨_, rfl⟩
  obtain ⟨b0, hb0⟩ : ∃ b0, b0 = w.heap.size := ⟨_, rfl⟩
  obtain ⟨lo, hlo2⟩ : ∃ lo, lo = w3.heap.size := ⟨_, rfl⟩
  rw [← hb9] at y9 ⊢
  rw [← hb7] at y7 ⊢
  rw [← hb6] at y6 ⊢
  rw [← hb5] at y5 ⊢
  rw [← hb0] at y0 ⊢
  rw [← hlo2] at hlo hbk
  have o1 : b0 < b5 := by omega
  have o2 : b5 < b6 := by omega
  have o3 : b6 < b7 := by omega
  have o4 : b7 < b9 := by omega
  have o5 : b9 < lo := by omega
  have o6 : lo ≤ w4.heap.size := by omega
  have HT4 : Hid (BAt w4 (.slice A m c) L ∧ BK (fun k => k < b0) (.slice A m c) L) := ⟨HT.out.kept hB04, by rw [hb0]; exact HT.out.bk⟩
  have HI2 := Lib.hid hI
  have HB24 := Lib.hid hB24
  have HB04 : Hid (Below b0 w w4) := by show Below b0 w w4; rw [hb0]; exact hB04
  have HSS : Hid (b0 ≤ wS.heap.size ∧ wS.heap.size ≤ b5 ∧ b5 = w2.heap.size ∧ b0 = w.heap.size ∧ Below wS.heap.size wS w2) := ⟨by omega, by omega, hb5, hb0, hI.bel⟩
  clear H4 HI HBS HB3 HB1 HBX d0 f0 hwS hI kS k2 hw3 hB23 x5 x6 x7 x9 hb4 hB24 hB04 hwb hb9 hb7 hb6 hb5 hb0 hlo2 hz2 hz3 hz4 hzS
  refine' range_o rfl (by omega) (gf := 27) (lb := #[.pointer (some ⟨Bs, 0, none⟩)]) rfl trivial (enters_of Try.func27 (by kernel_rfl) rfl)
    (K := fun k => lo ≤ k) (K' := fun k => lo ≤ k) (fun k hk => by omega) (fun k hk => by omega)
    (all1_seq 8 (by omega) lo Bs w4 A3 m c3 L hbs hlo hba hbk HD.out.1 (by omega)) rfl
    (fun pre W => AlI b7 b9 st w4 pre W ∧ pre.length < st) (fun cc pre W => (AlI b7 b9 st w4 pre W ∧ pre.length = st) ∧ cc = .exit 0)
    (OwnFrom.and (AlI.own (Nat.le_refl _)) (ownFrom_pure2 _ _)) (fun cc => OwnFrom.and (OwnFrom.and (AlI.own (Nat.le_refl _)) (ownFrom_pure2 _ _)) (ownFrom_pure2 _ _)) ⟨⟨⟨y7, y9⟩, Xc.refl _ _ _⟩, by show 0 < st; omega⟩ _ ?assign ?body ?done ?stop
  case assign =>
    intro l x v W K hK
    gi_wp2
    exact hK
  case body =>
    rintro l2 pre ⟨xa, xb⟩ v W ⟨hA, hps⟩ hbat ⟨r, hr⟩
    obtain ⟨⟨g1, hg1, ca, hg1l⟩, g2, u, hg2, cu, hg2l, hub⟩ := HI2.out.get hr
    subst hg1 hg2
    have hplen : pre.length + 1 ≤ N := by rw [← HN.out, hr]; simp
    obtain ⟨p, hp⟩ : ∃ p, p = pre.length := ⟨_, rfl⟩
    rw [← hp] at ca cu hplen
    obtain ⟨Au, cpu, hu, _⟩ := id hub
    obtain ⟨kx, hkx⟩ : ∃ kx, kx = xb.length := ⟨_, rfl⟩
    have hu2 : u = .slice Au kx cpu := by rw [hkx]; exact hu
    obtain ⟨Av, cpv, hv, _⟩ := id hbat
    have hv2 : v = .slice Av kx cpv := by rw [hkx]; exact hv
    subst hu2 hv2
    have hzb5 := HSS.out.2.2.1
    have hzb6 := HSS.out.2.1
    have hzb7 := HSS.out.1
    have d7 : W.cell? ⟨b7, 0, none⟩ = some (.int .i64 (p : Int)) := by rw [hp]; exact hA.1.1.cell
    have f7 := hA.1.1.frozen
    have d9 := hA.1.2.cell
    have f9 := hA.1.2.frozen
    have d5 : W.cell? ⟨b5, 0, none⟩ = some (.slice (some ⟨g1, 0, none⟩) N c1) := hA.2.cell y5.cell (by omega) (by omega)
    have d6 : W.cell? ⟨b6, 0, none⟩ = some (.slice (some ⟨g2, 0, none⟩) N c2) := hA.2.cell y6.cell (by omega) (by omega)
    have d0 : W.cell? ⟨b0, 0, none⟩ = some (.int .i64 (st : Int)) := hA.2.cell y0.cell (by omega) (by omega)
    have da : W.cell? ⟨g1, p, none⟩ = some (.int .i64 (xa : Int)) := hA.2.cell ((HB24.out.cell (p := ⟨g1, p, none⟩) (by omega)).trans ca) (by omega) (by omega)
    have du : W.cell? ⟨g2, p, none⟩ = some (.slice Au kx cpu) := hA.2.cell ((HB24.out.cell (p := ⟨g2, p, none⟩) (by omega)).trans cu) (by omega) (by omega)
    have hkx2 : kx ≤ 800 := by
      have h1 := (AtP.fit hr).2.1
      have h2 : xb.length + 8 ≤ L.length := h1
      have := HD.out.2.1
      omega
    have HV := Lib.hid hbat
    have HU : Hid (BAt W (.slice Au kx cpu) xb) := (hub.kept (HSS.out.2.2.2.2.trans (HB24.out.mono (by omega)))).ks hub.bk (hA.2.ks (by omega) (by omega))
    have HKX := Lib.hid hkx
    have HA := Lib.hid hA
    have HP := Lib.hid hp
    have HPS := Lib.hid hps
    have q1 : (p : Int) < (N : Int) := by omega
    have q2 : (0 : Int) ≤ (p : Int) := by omega
    have q3 : (p : Int) + 1 ≤ 800 := by omega
    have n1 : ¬ b0 = b9 := by omega
    have n2 : ¬ b0 = b7 := by omega
    have n3 : ¬ b7 = b9 := by omega
    have n4 : ¬ b9 = b7 := by omega
    have zW : lo ≤ W.heap.size := Nat.le_trans o6 hA.2.size
    clear hr ca cu hg1l hg2l hub hbat hu hv hA hp hps hkx hzb5 hzb6 hzb7
    gi_wp2_with (refine ⟨trivial, ?_⟩; gi_at_call 13; refine (CallsIn.inRound l2 (callsIn_wide.2 (same_eq W _ _ xb HV.out HU.out (by rw [← HKX.out]; omega)))).mono ?_; rintro e w6 ⟨rfl, b6w⟩
                 have e7 : w6.cell? ⟨b7, 0, none⟩ = some (.int .i64 (p : Int)) := (b6w.cell (p := ⟨b7, 0, none⟩) (by show b7 < _; omega)).trans d7
                 have g7 : w6.frozen? ⟨b7, 0, none⟩ = false := (b6w.frozen (p := ⟨b7, 0, none⟩) (by show b7 < _; omega)).trans f7
                 have e9 : w6.cell? ⟨b9, 0, none⟩ = some (.bool true) := (b6w.cell (p := ⟨b9, 0, none⟩) (by show b9 < _; omega)).trans d9
                 have g9 : w6.frozen? ⟨b9, 0, none⟩ = false := (b6w.frozen (p := ⟨b9, 0, none⟩) (by show b9 < _; omega)).trans f9
                 have e0 : w6.cell? ⟨b0, 0, none⟩ = some (.int .i64 (st : Int)) := (b6w.cell (p := ⟨b0, 0, none⟩) (by show b0 < _; omega)).trans d0
                 have h6 := HA.out.step (x := (xa, xb)) b6w (by omega : b7 < lo) (by omega : b9 < lo) n3
                 rw [← HP.out, show ((p + 1 : Nat) : Int) = (p : Int) + 1 by omega] at h6
                 have HS6 := Lib.hid h6
                 clear b6w h6)
    · have hh : (p : Int) + 1 = (st : Int) := by omega
      have h6 := HS6.out
      rw [hh] at h6
      exact ⟨h6.1, ⟨h6.2, by rw [List.length_append]; show pre.length + 1 = st; rw [← HP.out]; omega⟩, rfl⟩
    · exact ⟨HS6.out.1, HS6.out.2, by rw [List.length_append]; show pre.length + 1 < st; have := HPS.out; rw [← HP.out] at this ⊢; omega⟩
  case done =>
    rintro D W hD ⟨hA, hps⟩ hK
    obtain ⟨nv, hnv⟩ : ∃ nv, nv = N := ⟨_, rfl⟩
    have hnl : (allF L).length = nv := by rw [hnv]; exact HN.out
    have hmn : (if (N : Int) < (st : Int) then (N : Int) else (st : Int)) = (nv : Int) := by rw [HN.out] at hps; rw [if_pos (by omega), hnv]
    clear hps hnv
    have d7 := hA.1.1.cell
    rw [hnl] at d7
    have d9 := hA.1.2.cell
    have d6 : W.cell? ⟨b6, 0, none⟩ = some (.slice A2 N c2) := hA.2.cell y6.cell (by omega) (by omega)
    have d0 : W.cell? ⟨b0, 0, none⟩ = some (.int .i64 (st : Int)) := hA.2.cell y0.cell (by omega) (by omega)
    have HX := Lib.hid hA.2
    have HK := Lib.hid hK
    have zW : lo ≤ W.heap.size := Nat.le_trans o6 hA.2.size
    have HTW : Hid (BAt W (.slice A m c) L) := HT4.out.1.ks HT4.out.2 (hA.2.ks (by omega) (by omega))
    have zD : D < W.heap.size := (Array.getElem?_eq_some_iff.1 hK).1
    clear hA hK hnl
    gi_wp2
    gi_loopw [8, 12] (fun s8 s12 wr => ∃ i a : Nat, i ≤ N ∧ s8 = .int .i64 (a : Int) ∧ s12 = .int .i64 (i : Int) ∧ Hid (a = whF ((allF L).take i)) ∧ wr = W) (fun _ s12 _ => N - (intOf s12).toNat)
    case atStart => exact ⟨0, 0, Nat.zero_le _, rfl, rfl, rfl, rfl⟩
    case round =>
      obtain ⟨i, a, hi, rfl, rfl, ha, rfl⟩ := hrel
      by_cases hlt : i < N
      · have hil : i < (allF L).length := by rw [HN.out]; exact hlt
        have hsp := split_fit hil
        obtain ⟨hq1, g2, u, hg2, cu, hg2l, hub⟩ := HI2.out.get hsp
        obtain ⟨f1, f2, f3⟩ := AtP.fit hsp
        have hla : a ≤ 800 := by rw [ha.out]; have := HD.out.2.1; omega
        subst hg2
        rw [show ((allF L).take i).length = i by rw [List.length_take]; omega] at cu
        obtain ⟨kx, hkx⟩ : ∃ kx, kx = ((allF L)[i]).2.length := ⟨_, rfl⟩
        obtain ⟨Au, cpu, hu, hub2⟩ := id hub
        rw [← hkx] at hu f2
        subst hu
        have hkx2 : kx ≤ 800 := by have := HD.out.2.1; omega
        have hzb5 := HSS.out.2.2.1
        have du : wr.cell? ⟨g2, i, none⟩ = some (.slice Au kx cpu) := HX.out.cell ((HB24.out.cell (p := ⟨g2, i, none⟩) (by omega)).trans cu) (by omega) (by omega)
        have q1 : (i : Int) < (N : Int) := by omega
        have q2 : (0 : Int) ≤ (i : Int) := by omega
        obtain ⟨a2, ha2⟩ : ∃ a2, a2 = a + kx + 8 := ⟨_, rfl⟩
        have q3 : (a : Int) + (kx : Int) + 8 = (a2 : Int) := by omega
        have HA2 : Hid (a2 = whF ((allF L).take (i + 1))) := by show _ = _; rw [whF_take hil, ← hkx, ← ha.out, ha2]; omega
        have q4 : a2 ≤ 2000 := by omega
        clear hq1 hub2 hsp cu hg2l hub f1 f2 f3 hkx hzb5 ha2 ha hil
        gi_wp2
        go_roundw
        case rel => exact ⟨i + 1, a2, hlt, rfl, by go_num, HA2, trivial⟩
        case measure => simp [intOf]; omega
      · obtain rfl : i = N := by omega
        have HE : Hid (whF (allF L) = a) := by show _ = _; rw [ha.out, ← HN.out, List.take_of_length_le (Nat.le_refl _)]
        have q1 : ¬ (i : Int) < (i : Int) := by omega
        clear ha hlt
        gi_wp2_with (first
          | (refine ⟨trivial, ?_⟩; gi_at_call 19; refine (callsIn_wide.2 (whole_any w7 A m c L HT7.out HD.out.1 (by omega))).mono ?_; rintro e w8 ⟨rfl, b8⟩
             rw [HE.out]
             have HB8 : Hid (Below wr.heap.size wr w8) := HB7.out.trans (b8.mono HB7.out.size)
             clear b8)
          | (refine ⟨trivial, ?_⟩; gi_at_call 10; refine (callsIn_wide.2 (known_any _)).mono ?_; rintro e w7 ⟨rfl, b7w⟩
             have e7 : w7.cell? ⟨b7, 0, none⟩ = some (.int .i64 (nv : Int)) := (b7w.cell (p := ⟨b7, 0, none⟩) (by show b7 < _; omega)).trans d7
             have e9 : w7.cell? ⟨b9, 0, none⟩ = some (.bool true) := (b7w.cell (p := ⟨b9, 0, none⟩) (by show b9 < _; omega)).trans d9
             have e6 : w7.cell? ⟨b6, 0, none⟩ = some (.slice A2 i c2) := (b7w.cell (p := ⟨b6, 0, none⟩) (by show b6 < _; omega)).trans d6
             have e0 : w7.cell? ⟨b0, 0, none⟩ = some (.int .i64 (st : Int)) := (b7w.cell (p := ⟨b0, 0, none⟩) (by show b0 < _; omega)).trans d0
             have HT7 := Lib.hid (HTW.out.kept b7w)
             have HB7 := Lib.hid b7w
             clear b7w))
        all_goals
          have hK8 := block_kept HK.out HB8.out
          refine ⟨by simp, .inl ⟨_, _, rfl, run_takeDeferred hK8, ?_⟩⟩
          have hfin : Below b0 w w8 := (HB04.out.trans (HX.out.to (by omega) (by omega) (by omega))).trans (HB8.out.mono (by omega))
          have hDb : b0 ≤ D := by omega
          rw [HSS.out.2.2.2.1] at hfin hDb
          exact ⟨_, results_tmp rfl _ _ _, rfl, hfin.trans (belowK_b (w := w) (Nat.le_refl _) w8 D _ _ hDb hK8 rfl rfl)⟩
  case stop =>
    rintro D cc pre r W hD hS ⟨⟨hA, hps⟩, rfl⟩ hK
    obtain ⟨nv, hnv⟩ : ∃ nv, nv = st := ⟨_, rfl⟩
    have hnl : pre.length = nv := by rw [hnv]; exact hps
    have hmn : (if (N : Int) < (st : Int) then (N : Int) else (st : Int)) = (nv : Int) := by
      have h1 : pre.length ≤ N := by rw [← HN.out, hS]; simp
      rw [if_neg (by omega), hnv]
    clear hps hnv hS
    have d7 := hA.1.1.cell
    rw [hnl] at d7
    have d9 := hA.1.2.cell
    have d6 : W.cell? ⟨b6, 0, none⟩ = some (.slice A2 N c2) := hA.2.cell y6.cell (by omega) (by omega)
    have d0 : W.cell? ⟨b0, 0, none⟩ = some (.int .i64 (st : Int)) := hA.2.cell y0.cell (by omega) (by omega)
    have HX := Lib.hid hA.2
    have HK := Lib.hid hK
    have zW : lo ≤ W.heap.size := Nat.le_trans o6 hA.2.size
    have HTW : Hid (BAt W (.slice A m c) L) := HT4.out.1.ks HT4.out.2 (hA.2.ks (by omega) (by omega))
    have zD : D < W.heap.size := (Array.getElem?_eq_some_iff.1 hK).1
    clear hA hK hnl
    gi_wp2
    gi_loopw [8, 12] (fun s8 s12 wr => ∃ i a : Nat, i ≤ N ∧ s8 = .int .i64 (a : Int) ∧ s12 = .int .i64 (i : Int) ∧ Hid (a = whF ((allF L).take i)) ∧ wr = W) (fun _ s12 _ => N - (intOf s12).toNat)
    case atStart => exact ⟨0, 0, Nat.zero_le _, rfl, rfl, rfl, rfl⟩
    case round =>
      obtain ⟨i, a, hi, rfl, rfl, ha, rfl⟩ := hrel
      by_cases hlt : i < N
      · have hil : i < (allF L).length := by rw [HN.out]; exact hlt
        have hsp := split_fit hil
        obtain ⟨hq1, g2, u, hg2, cu, hg2l, hub⟩ := HI2.out.get hsp
        obtain ⟨f1, f2, f3⟩ := AtP.fit hsp
        have hla : a ≤ 800 := by rw [ha.out]; have := HD.out.2.1; omega
        subst hg2
        rw [show ((allF L).take i).length = i by rw [List.length_take]; omega] at cu
        obtain ⟨kx, hkx⟩ : ∃ kx, kx = ((allF L)[i]).2.length := ⟨_, rfl⟩
        obtain ⟨Au, cpu, hu, hub2⟩ := id hub
        rw [← hkx] at hu f2
        subst hu
        have hkx2 : kx ≤ 800 := by have := HD.out.2.1; omega
        have hzb5 := HSS.out.2.2.1
        have du : wr.cell? ⟨g2, i, none⟩ = some (.slice Au kx cpu) := HX.out.cell ((HB24.out.cell (p := ⟨g2, i, none⟩) (by omega)).trans cu) (by omega) (by omega)
        have q1 : (i : Int) < (N : Int) := by omega
        have q2 : (0 : Int) ≤ (i : Int) := by omega
        obtain ⟨a2, ha2⟩ : ∃ a2, a2 = a + kx + 8 := ⟨_, rfl⟩
        have q3 : (a : Int) + (kx : Int) + 8 = (a2 : Int) := by omega
        have HA2 : Hid (a2 = whF ((allF L).take (i + 1))) := by show _ = _; rw [whF_take hil, ← hkx, ← ha.out, ha2]; omega
        have q4 : a2 ≤ 2000 := by omega
        clear hq1 hub2 hsp cu hg2l hub f1 f2 f3 hkx hzb5 ha2 ha hil
        gi_wp2
        go_roundw
        case rel => exact ⟨i + 1, a2, hlt, rfl, by go_num, HA2, trivial⟩
        case measure => simp [intOf]; omega
      · obtain rfl : i = N := by omega
        have HE : Hid (whF (allF L) = a) := by show _ = _; rw [ha.out, ← HN.out, List.take_of_length_le (Nat.le_refl _)]
        have q1 : ¬ (i : Int) < (i : Int) := by omega
        clear ha hlt
        gi_wp2_with (first
          | (refine ⟨trivial, ?_⟩; gi_at_call 19; refine (callsIn_wide.2 (whole_any w7 A m c L HT7.out HD.out.1 (by omega))).mono ?_; rintro e w8 ⟨rfl, b8⟩
             rw [HE.out]
             have HB8 : Hid (Below wr.heap.size wr w8) := HB7.out.trans (b8.mono HB7.out.size)
             clear b8)
          | (refine ⟨trivial, ?_⟩; gi_at_call 10; refine (callsIn_wide.2 (known_any _)).mono ?_; rintro e w7 ⟨rfl, b7w⟩
             have e7 : w7.cell? ⟨b7, 0, none⟩ = some (.int .i64 (nv : Int)) := (b7w.cell (p := ⟨b7, 0, none⟩) (by show b7 < _; omega)).trans d7
             have e9 : w7.cell? ⟨b9, 0, none⟩ = some (.bool true) := (b7w.cell (p := ⟨b9, 0, none⟩) (by show b9 < _; omega)).trans d9
             have e6 : w7.cell? ⟨b6, 0, none⟩ = some (.slice A2 i c2) := (b7w.cell (p := ⟨b6, 0, none⟩) (by show b6 < _; omega)).trans d6
             have e0 : w7.cell? ⟨b0, 0, none⟩ = some (.int .i64 (st : Int)) := (b7w.cell (p := ⟨b0, 0, none⟩) (by show b0 < _; omega)).trans d0
             have HT7 := Lib.hid (HTW.out.kept b7w)
             have HB7 := Lib.hid b7w
             clear b7w))
        all_goals
          have hK8 := block_kept HK.out HB8.out
          refine ⟨by simp, .inl ⟨_, _, rfl, run_takeDeferred hK8, ?_⟩⟩
          have hfin : Below b0 w w8 := (HB04.out.trans (HX.out.to (by omega) (by omega) (by omega))).trans (HB8.out.mono (by omega))
          have hDb : b0 ≤ D := by omega
          rw [HSS.out.2.2.2.1] at hfin hDb
          exact ⟨_, results_tmp rfl _ _ _, rfl, hfin.trans (belowK_b (w := w) (Nat.le_refl _) w8 D _ _ hDb hK8 rfl rfl)⟩
end Go.Proofs.Ytmcoinfdgidblaa.Fr
