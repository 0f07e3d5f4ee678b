/-
  StorePlays' law. Conditions: the calls lie in memory.
-/
import Derived.Test.YtffeinbbgfogoaaSM6
namespace Go.Proofs.Ytffeinbbgfogoaa.Sr
open Go.RowKit Fr

theorem Pl.more {w W : World} {p q i : Nat} {room : Int} {s : S} {mb : Option Nat} {L : List Fi} {x : RS} (h : Pl w W p q room (2 * i + 1) s mb L x) : Pl w W p q room (2 * (i + 1)) s mb L x :=
  ⟨h.st, h.rf, h.rl, h.al, h.good.more, h.room, h.apart, h.lo, h.lr, h.bel⟩
theorem Pl.more0 {w W : World} {p q i : Nat} {room : Int} {s : S} {mb : Option Nat} {L : List Fi} {x : RS} (h : Pl w W p q room (2 * i) s mb L x) : Pl w W p q room (2 * (i + 1)) s mb L x :=
  ⟨h.st, h.rf, h.rl, h.al, h.good.more.more, h.room, h.apart, h.lo, h.lr, h.bel⟩
theorem kx {w : World} {p : Nat} {s : S} {mb : Option Nat} {L : List Fi} (h : StR w p s mb L) :
    Calls Try.prog 13 #[.pointer (some ⟨p, 0, none⟩), .string ({ data := #[120] } : ByteArray), .slice (some ⟨w.heap.size, 0, none⟩) 1 1] (w.alloc (.cells #[.int .u8 121] 5 (1, 2))) fun e w' =>
      ∃ r s2 L2, e = .returned (.int .i64 r) ∧ Mo (w.alloc (.cells #[.int .u8 121] 5 (1, 2))) w' p mb L s2 L2 := by
  obtain ⟨h1, h2⟩ := lit_free h [121] (1, 2)
  refine (Write_any (w := w.alloc (.cells #[.int .u8 121] 5 (1, 2))) (s := s) (mb := mb) (L := L) ({ data := #[120] } : ByteArray) (n := 1) (c := 1) (bs := [121]) h1 (by decide) rfl h2).mono ?_
  rintro e w' ⟨rfl, hm⟩
  exact ⟨_, _, _, rfl, hm⟩
theorem rq_cells {w : World} {q : Nat} {x : RS} (h : RfR w q x) : w.cell? ⟨q, 2, none⟩ = some (.int .i64 x.lf) ∧ w.cell? ⟨q, 3, none⟩ = some (.bool x.dn) ∧ w.frozen? ⟨q, 2, none⟩ = false ∧ w.frozen? ⟨q, 3, none⟩ = false := by
  have h1 := h.blk
  unfold rblk at h1
  exact ⟨by simp [World.cell?, h1], by simp [World.cell?, h1], by simp [World.frozen?, h1], by simp [World.frozen?, h1]⟩
set_option maxRecDepth 100000 in
set_option maxHeartbeats 8000000 in
theorem law_plays (w : World) (r : Int) (A : Option Addr) (n0 c0 m0 : Nat) (cs : List AcM) (h0 : ActsIn w A m0 cs) (hm0 : m0 = min n0 60) :
    Calls Try.prog 3 #[.int .i64 r, .slice A n0 c0] w fun e w' => e = .returned (.bool true) ∧ Below w.heap.size w w' := by
  have HI := Lib.hid h0
  have hx0 : Hid ((m0 < n0 ∧ ¬ m0 < 60) ∨ ¬ m0 < n0) := by show _ ∨ _; omega
  have l0 : m0 ≤ 60 := by omega
  have l2 : m0 ≤ n0 := by omega
  have HL := Lib.hid h0.1
  have hu : 0 ≤ (IntKind.u64.wrap r).tmod 200 ∧ (IntKind.u64.wrap r).tmod 200 ≤ 199 := by
    have h1 : 0 ≤ IntKind.u64.wrap r := by rw [IntKind.wrap_u64]; omega
    rw [Int.tmod_eq_emod_of_nonneg h1]; omega
  obtain ⟨u, hu2⟩ : ∃ u, u = (IntKind.u64.wrap r).tmod 200 := ⟨_, rfl⟩
  have hu3 := hu2.symm
  rw [hu3] at hu
  obtain ⟨u0, u1⟩ := hu
  have hN := new_any w u u0 (by omega)
  obtain ⟨p, hp⟩ : ∃ p, p = w.heap.size := ⟨_, rfl⟩
  rw [← hp] at hN
  have HN := Lib.hid hN
  have HP := Lib.hid hp
  clear hN hp h0 hm0 hu2
  go_enter Try.func3, Try.ntmps3
  go_upto_region 5 with (go_at_call 10; (with_reducible refine HN.out.mono ?_); rintro e w1 ⟨rfl, r1, b1, z1⟩; have HR1 := Lib.hid r1; have HB1 : Hid (Below w.heap.size w w1) := (by show Below _ _ _; rw [← HP.out]; exact b1); have HZ1 := Lib.hid z1; clear r1 b1 z1)
  clear HN hu3
  go_wp2
  obtain ⟨q, hq⟩ : ∃ q, q = w1.heap.size := ⟨_, rfl⟩
  have hbk := block_new w1 (.cells #[.slice none 0 0, .int .i64 u, .int .i64 (-1), .bool false] 31)
  have hbel : Below w1.heap.size w1 (w1.alloc (.cells #[.slice none 0 0, .int .i64 u, .int .i64 (-1), .bool false] 31)) := (Below.refl _ _).alloc (Nat.le_refl _) _
  generalize w1.alloc (.cells #[.slice none 0 0, .int .i64 u, .int .i64 (-1), .bool false] 31) = W at hbk hbel ⊢
  rw [← hq] at hbk ⊢
  have HPL : Hid (Pl w W p q u 0 ⟨false, 0, false, u, 0⟩ none [] ⟨.slice none 0 0, [], u, -1, false⟩) := by
    refine ⟨HR1.out.below hbel, ⟨hbk, World.ownsRow_nil _ _ _ _, fun y hy => (by cases hy), fun y hy => (by cases hy), List.Pairwise.nil, Nat.zero_le _⟩, ⟨rfl, rfl, rfl, rfl, fun e => by cases e⟩, Alike.refl _, ⟨List.Pairwise.nil, Nat.le_refl _, fun y hy => by cases hy⟩, rfl, fun j hj hr => ?_, fun j hj => ?_, fun j hj => ?_, HB1.out.trans (hbel.mono HB1.out.size)⟩
    · have e1 := own_nil hj
      rcases hr with e2 | e2 | ⟨y, hy, _⟩
      · have := HZ1.out; omega
      · cases e2
      · cases hy
    · rw [own_nil hj, HP.out]; exact Nat.le_refl _
    · rcases hj with e2 | e2 | ⟨y, hy, _⟩
      · have := HB1.out.size; omega
      · cases e2
      · cases hy
  clear hbk hbel hq HR1 HZ1 HB1
  go_loopg [5, 8, 9, 10, 11, 12, 13, 14, 15, 16] m0 (fun (gh : Nat) s5 s8 s9 s10 s11 s12 s13 s14 s15 s16 wx => ∃ (i p : Nat) (s : S) (mb : Option Nat) (L : List Fi) (x : RS), gh = m0 - i ∧ i ≤ m0 ∧ s5 = .pointer (some ⟨p, 0, none⟩) ∧ s8 = .int .i64 (i : Int) ∧ Hid (Pl w wx p q u (2 * i) s mb L x) ∧ s9 = s9 ∧ s10 = s10 ∧ s11 = s11 ∧ s12 = s12 ∧ s13 = s13 ∧ s14 = s14 ∧ s15 = s15 ∧ s16 = s16)
  case atStart => exact ⟨0, p, _, _, _, _, rfl, Nat.zero_le _, rfl, rfl, HPL.out, rfl, rfl, rfl, rfl, rfl, rfl, rfl, rfl⟩
  case round =>
    clear HPL HP
    obtain ⟨i, p, s, mb, L, x, rfl, him, rfl, rfl, hinv, _⟩ := hrel
    by_cases hlt : i < m0
    · obtain ⟨a, ha⟩ : ∃ a, cs[i]? = some a := ⟨_, List.getElem?_eq_getElem (by rw [HL.out]; exact hlt)⟩
      obtain ⟨a1, a2, g, o, hA, hg, d0, d1, d2, d3, d4⟩ := HI.out.2 i a ha
      subst hA
      have hW := hinv.out.bel
      have c0 := (hW.cell (p := ⟨g, o + i * 5, none⟩) hg).trans d0
      have c1 := (hW.cell (p := ⟨g, o + i * 5 + 1, none⟩) hg).trans d1
      have c2 := (hW.cell (p := ⟨g, o + i * 5 + 2, none⟩) hg).trans d2
      have c3 := (hW.cell (p := ⟨g, o + i * 5 + 3, none⟩) hg).trans d3
      have c4 := (hW.cell (p := ⟨g, o + i * 5 + 4, none⟩) hg).trans d4
      have t1 : (i : Int) < (n0 : Int) := by omega
      have t2 : (i : Int) < 60 := by omega
      have t3 : (0 : Int) ≤ (i : Int) := by omega
      obtain ⟨m, hm⟩ : ∃ m, m = min a.nb 60 := ⟨_, rfl⟩
      have hlen := a2.len
      have hmin : min (a.nb : Int) 60 = (m : Int) := by omega
      have hsl := slice_to a.A a.nb a.cb m (by omega)
      have HBT := Lib.hid (a2.take m (by omega)).1
      have HMM : Hid (m ≤ 1000) := by show _ ≤ _; omega
      have HN : Hid (2 * i ≤ 980) := by show _ ≤ _; omega
      have HU : Hid (0 ≤ u ∧ u ≤ 1000) := ⟨u0, by omega⟩
      have HHM := Lib.hid hm
      have HAN := Lib.hid a1
      clear d0 d1 d2 d3 d4 ha hW hm a1 a2 hlen
      go_upto_block 2 with fail
      obtain ⟨b9, hb9⟩ : ∃ b9, b9 = wr.heap.size := ⟨_, rfl⟩
      have hbk := block_new wr (.cells #[.int .i64 a.k, .int .i64 a.n, .string a.nm, .string a.tw, .slice a.A m a.cb] 34)
      have hp2 := hinv.out.below ((Below.refl _ _).alloc (Nat.le_refl _) (.cells #[.int .i64 a.k, .int .i64 a.n, .string a.nm, .string a.tw, .slice a.A m a.cb] 34))
      have hno : ¬ own p mb L b9 ∧ b9 ≠ q ∧ b9 < (wr.alloc (.cells #[.int .i64 a.k, .int .i64 a.n, .string a.nm, .string a.tw, .slice a.A m a.cb] 34)).heap.size := by
        refine ⟨fun h => ?_, fun h => ?_, by rw [hb9]; simp⟩
        · have := own_lt hinv.out.st h; omega
        · have := hinv.out.rf.lt (.inl rfl : ro q x q); omega
      have HNO := Lib.hid hno
      rw [← hb9] at hbk ⊢
      generalize wr.alloc (.cells #[.int .i64 a.k, .int .i64 a.n, .string a.nm, .string a.tw, .slice a.A m a.cb] 34) = WB at hbk hp2 HNO ⊢
      have HPB := Lib.hid hp2
      have HBX : Hid (∀ W : World, W.heap[b9]? = WB.heap[b9]? → W.cell? ⟨b9, 0, none⟩ = some (.int .i64 a.k) ∧ W.cell? ⟨b9, 1, none⟩ = some (.int .i64 a.n) ∧ W.cell? ⟨b9, 2, none⟩ = some (.string a.nm) ∧ W.cell? ⟨b9, 3, none⟩ = some (.string a.tw) ∧ W.cell? ⟨b9, 4, none⟩ = some (.slice a.A m a.cb)) := fun W hW => by
        have h1 : W.heap[b9]? = _ := hW.trans hbk
        exact ⟨by simp [World.cell?, h1], by simp [World.cell?, h1], by simp [World.cell?, h1], by simp [World.cell?, h1], by simp [World.cell?, h1]⟩
      obtain ⟨x0, x1, x2, x3, x4⟩ := HBX.out WB rfl
      have hkr : 0 ≤ (IntKind.u64.wrap a.k).tmod 9 ∧ (IntKind.u64.wrap a.k).tmod 9 ≤ 8 := by
        have h1 : 0 ≤ IntKind.u64.wrap a.k := by rw [IntKind.wrap_u64]; omega
        rw [Int.tmod_eq_emod_of_nonneg h1]; omega
      obtain ⟨kk, hkk⟩ : ∃ kk, (IntKind.u64.wrap a.k).tmod 9 = kk := ⟨_, rfl⟩
      rw [hkk] at hkr
      clear hbk hp2 hno hb9 hinv c0 c1 c2 c3 c4
      go_cut [5, 10, 11, 12, 13, 14, 15, 16] from 35 to 205 (fun s5 s10 s11 s12 s13 s14 s15 s16 wx => ∃ (p2 : Nat) (s2 : S) (mb2 : Option Nat) (L2 : List Fi) (x2 : RS), s5 = .pointer (some ⟨p2, 0, none⟩) ∧ s10 = .bool true ∧ Hid (Pl w wx p2 q u (2 * (i + 1)) s2 mb2 L2 x2))
      case first =>
        by_cases k0 : kk = 0
        · as_aux_lemma =>
            subst k0
            have HPD := Lib.hid (HPB.out.below (Below.refl _ _).drew)
            have HS := Lib.hid (sc_app (w := w) (p := p) (s := s) (mb := mb) (L := L) a.nm HBT.out HMM.out)
            have HR := Lib.hid (rc_app (w := w) (q := q) (s := s) (x := x) a.nm HBT.out HMM.out)
            have X0 : Hid (WB.drew.cell? ⟨b9, 2, none⟩ = some (.string a.nm) ∧ WB.drew.cell? ⟨b9, 4, none⟩ = some (.slice a.A m a.cb)) := ⟨x2, x4⟩
            clear x0 x1 x2 x3 x4
            have x0 := (HBX.out WB rfl).1
            go_upto_region 19 with fail
            clear x0
            go_region_held3 (fun w' => w'.cell? ⟨b9, 2, none⟩ = some (.string a.nm) ∧ w'.cell? ⟨b9, 4, none⟩ = some (.slice a.A m a.cb))
              (first | (with_reducible exact X0.out) | (with_reducible exact X2.out) | (with_reducible exact X1.out))
              (first
                | (go_at_call 12; refine (pair2 HPD.out HU.out (by have := HN.out; omega) HR.out HM1.out).mono ?_; rintro e w5 ⟨rfl, hf, hmid⟩; have X2 := Lib.hid (let h := HBX.out w5 (hmid.2 b9 HNO.out.2.2 (fun h => h.elim HNO.out.1 HNO.out.2.1)); (⟨h.2.2.1, h.2.2.2.2⟩ : w5.cell? ⟨b9, 2, none⟩ = some (.string a.nm) ∧ w5.cell? ⟨b9, 4, none⟩ = some (.slice a.A m a.cb))); have HF := Lib.hid hf; clear hf hmid)
                | (go_at_call 11; refine (pair1 HPD.out HS.out).mono ?_; rintro e w4 ⟨rfl, hm1⟩; have X1 := Lib.hid (let h := HBX.out w4 (hm1.2.2.2.2 b9 HNO.out.2.2 HNO.out.1); (⟨h.2.2.1, h.2.2.2.2⟩ : w4.cell? ⟨b9, 2, none⟩ = some (.string a.nm) ∧ w4.cell? ⟨b9, 4, none⟩ = some (.slice a.A m a.cb))); have HM1 := Lib.hid hm1; clear hm1)
                | (go_at_call 11; refine (pair4 HPD.out HS.out HM2.out).mono ?_; rintro e w5 ⟨rfl, hf, hmid⟩; have X2 := Lib.hid (let h := HBX.out w5 (hmid.2 b9 HNO.out.2.2 (fun h => h.elim HNO.out.1 HNO.out.2.1)); (⟨h.2.2.1, h.2.2.2.2⟩ : w5.cell? ⟨b9, 2, none⟩ = some (.string a.nm) ∧ w5.cell? ⟨b9, 4, none⟩ = some (.slice a.A m a.cb))); have HF := Lib.hid hf; clear hf hmid)
                | (go_at_call 12; refine (pair3 HPD.out HU.out (by have := HN.out; omega) HR.out).mono ?_; rintro e w4 ⟨rfl, hm2⟩; have X1 := Lib.hid (let h := HBX.out w4 (hm2.2.2.2.2 b9 HNO.out.2.2 HNO.out.2.1); (⟨h.2.2.1, h.2.2.2.2⟩ : w4.cell? ⟨b9, 2, none⟩ = some (.string a.nm) ∧ w4.cell? ⟨b9, 4, none⟩ = some (.slice a.A m a.cb))); have HM2 := Lib.hid hm2; clear hm2))
            all_goals
              go_wp2
              obtain ⟨mb', L', x', hpl⟩ := HF.out
              have HPL := Lib.hid hpl
              clear hpl HF HM1 X1 X2 X0
              go_meet
              exact ⟨p, _, mb', L', x', rfl, rfl, HPL.out.more⟩
        · by_cases k1 : kk = 1
          · as_aux_lemma =>
              subst k1
              have HPD := Lib.hid (HPB.out.below (Below.refl _ _).drew)
              have HS := Lib.hid (sc_wri (w := w) (p := p) (s := s) (mb := mb) (L := L) a.nm HBT.out HMM.out)
              have HR := Lib.hid (rc_wri (L := L) (w := w) (q := q) (s := s) (x := x) a.nm HBT.out HMM.out HPB.out.al)
              have X0 : Hid (WB.drew.cell? ⟨b9, 2, none⟩ = some (.string a.nm) ∧ WB.drew.cell? ⟨b9, 4, none⟩ = some (.slice a.A m a.cb)) := ⟨x2, x4⟩
              clear x0 x1 x2 x3 x4
              have x0 := (HBX.out WB rfl).1
              go_upto_region 21 with fail
              clear x0
              go_region_held3 (fun w' => w'.cell? ⟨b9, 2, none⟩ = some (.string a.nm) ∧ w'.cell? ⟨b9, 4, none⟩ = some (.slice a.A m a.cb))
                (first | (with_reducible exact X0.out) | (with_reducible exact X2.out) | (with_reducible exact X1.out))
                (first
                  | (go_at_call 14; refine (pair2 HPD.out HU.out (by have := HN.out; omega) HR.out HM1.out).mono ?_; rintro e w5 ⟨rfl, hf, hmid⟩; have X2 := Lib.hid (let h := HBX.out w5 (hmid.2 b9 HNO.out.2.2 (fun h => h.elim HNO.out.1 HNO.out.2.1)); (⟨h.2.2.1, h.2.2.2.2⟩ : w5.cell? ⟨b9, 2, none⟩ = some (.string a.nm) ∧ w5.cell? ⟨b9, 4, none⟩ = some (.slice a.A m a.cb))); have HF := Lib.hid hf; clear hf hmid)
                  | (go_at_call 13; refine (pair1 HPD.out HS.out).mono ?_; rintro e w4 ⟨rfl, hm1⟩; have X1 := Lib.hid (let h := HBX.out w4 (hm1.2.2.2.2 b9 HNO.out.2.2 HNO.out.1); (⟨h.2.2.1, h.2.2.2.2⟩ : w4.cell? ⟨b9, 2, none⟩ = some (.string a.nm) ∧ w4.cell? ⟨b9, 4, none⟩ = some (.slice a.A m a.cb))); have HM1 := Lib.hid hm1; clear hm1)
                  | (go_at_call 13; refine (pair4 HPD.out HS.out HM2.out).mono ?_; rintro e w5 ⟨rfl, hf, hmid⟩; have X2 := Lib.hid (let h := HBX.out w5 (hmid.2 b9 HNO.out.2.2 (fun h => h.elim HNO.out.1 HNO.out.2.1)); (⟨h.2.2.1, h.2.2.2.2⟩ : w5.cell? ⟨b9, 2, none⟩ = some (.string a.nm) ∧ w5.cell? ⟨b9, 4, none⟩ = some (.slice a.A m a.cb))); have HF := Lib.hid hf; clear hf hmid)
                  | (go_at_call 14; refine (pair3 HPD.out HU.out (by have := HN.out; omega) HR.out).mono ?_; rintro e w4 ⟨rfl, hm2⟩; have X1 := Lib.hid (let h := HBX.out w4 (hm2.2.2.2.2 b9 HNO.out.2.2 HNO.out.2.1); (⟨h.2.2.1, h.2.2.2.2⟩ : w4.cell? ⟨b9, 2, none⟩ = some (.string a.nm) ∧ w4.cell? ⟨b9, 4, none⟩ = some (.slice a.A m a.cb))); have HM2 := Lib.hid hm2; clear hm2))
              all_goals
                go_wp2
                obtain ⟨mb', L', x', hpl⟩ := HF.out
                have HPL := Lib.hid hpl
                clear hpl HF HM1 X1 X2 X0
                go_meet
                exact ⟨p, _, mb', L', x', rfl, rfl, HPL.out.more⟩
          · by_cases k2 : kk = 2
            · as_aux_lemma =>
                subst k2
                have HPD := Lib.hid (HPB.out.below (Below.refl _ _).drew)
                have HS := Lib.hid (sc_cut (w := w) (p := p) (s := s) (mb := mb) (L := L) a.nm a.n)
                have HR := Lib.hid (rc_cut (L := L) (w := w) (q := q) (s := s) (x := x) a.nm a.n HPB.out.al)
                have X0 : Hid (WB.drew.cell? ⟨b9, 2, none⟩ = some (.string a.nm) ∧ WB.drew.cell? ⟨b9, 1, none⟩ = some (.int .i64 a.n)) := ⟨x2, x1⟩
                clear x0 x1 x2 x3 x4
                have x0 := (HBX.out WB rfl).1
                go_upto_region 23 with fail
                clear x0
                go_region_held3 (fun w' => w'.cell? ⟨b9, 2, none⟩ = some (.string a.nm) ∧ w'.cell? ⟨b9, 1, none⟩ = some (.int .i64 a.n))
                  (first | (with_reducible exact X0.out) | (with_reducible exact X2.out) | (with_reducible exact X1.out))
                  (first
                    | (go_at_call 16; refine (pair2 HPD.out HU.out (by have := HN.out; omega) HR.out HM1.out).mono ?_; rintro e w5 ⟨rfl, hf, hmid⟩; have X2 := Lib.hid (let h := HBX.out w5 (hmid.2 b9 HNO.out.2.2 (fun h => h.elim HNO.out.1 HNO.out.2.1)); (⟨h.2.2.1, h.2.1⟩ : w5.cell? ⟨b9, 2, none⟩ = some (.string a.nm) ∧ w5.cell? ⟨b9, 1, none⟩ = some (.int .i64 a.n))); have HF := Lib.hid hf; clear hf hmid)
                    | (go_at_call 15; refine (pair1 HPD.out HS.out).mono ?_; rintro e w4 ⟨rfl, hm1⟩; have X1 := Lib.hid (let h := HBX.out w4 (hm1.2.2.2.2 b9 HNO.out.2.2 HNO.out.1); (⟨h.2.2.1, h.2.1⟩ : w4.cell? ⟨b9, 2, none⟩ = some (.string a.nm) ∧ w4.cell? ⟨b9, 1, none⟩ = some (.int .i64 a.n))); have HM1 := Lib.hid hm1; clear hm1)
                    | (go_at_call 15; refine (pair4 HPD.out HS.out HM2.out).mono ?_; rintro e w5 ⟨rfl, hf, hmid⟩; have X2 := Lib.hid (let h := HBX.out w5 (hmid.2 b9 HNO.out.2.2 (fun h => h.elim HNO.out.1 HNO.out.2.1)); (⟨h.2.2.1, h.2.1⟩ : w5.cell? ⟨b9, 2, none⟩ = some (.string a.nm) ∧ w5.cell? ⟨b9, 1, none⟩ = some (.int .i64 a.n))); have HF := Lib.hid hf; clear hf hmid)
                    | (go_at_call 16; refine (pair3 HPD.out HU.out (by have := HN.out; omega) HR.out).mono ?_; rintro e w4 ⟨rfl, hm2⟩; have X1 := Lib.hid (let h := HBX.out w4 (hm2.2.2.2.2 b9 HNO.out.2.2 HNO.out.2.1); (⟨h.2.2.1, h.2.1⟩ : w4.cell? ⟨b9, 2, none⟩ = some (.string a.nm) ∧ w4.cell? ⟨b9, 1, none⟩ = some (.int .i64 a.n))); have HM2 := Lib.hid hm2; clear hm2))
                all_goals
                  go_wp2
                  obtain ⟨mb', L', x', hpl⟩ := HF.out
                  have HPL := Lib.hid hpl
                  clear hpl HF HM1 X1 X2 X0
                  go_meet
                  exact ⟨p, _, mb', L', x', rfl, rfl, HPL.out.more⟩
            · by_cases k3 : kk = 3
              · as_aux_lemma =>
                  subst k3
                  have HPD := Lib.hid (HPB.out.below (Below.refl _ _).drew)
                  have HS := Lib.hid (sc_ren (w := w) (p := p) (s := s) (mb := mb) (L := L) a.nm a.tw)
                  have HR := Lib.hid (rc_ren (L := L) (w := w) (q := q) (s := s) (x := x) a.nm a.tw HPB.out.al)
                  have X0 : Hid (WB.drew.cell? ⟨b9, 2, none⟩ = some (.string a.nm) ∧ WB.drew.cell? ⟨b9, 3, none⟩ = some (.string a.tw)) := ⟨x2, x3⟩
                  clear x0 x1 x2 x3 x4
                  have x0 := (HBX.out WB rfl).1
                  go_upto_region 25 with fail
                  clear x0
                  go_region_held3 (fun w' => w'.cell? ⟨b9, 2, none⟩ = some (.string a.nm) ∧ w'.cell? ⟨b9, 3, none⟩ = some (.string a.tw))
                    (first | (with_reducible exact X0.out) | (with_reducible exact X2.out) | (with_reducible exact X1.out))
                    (first
                      | (go_at_call 18; refine (pair2 HPD.out HU.out (by have := HN.out; omega) HR.out HM1.out).mono ?_; rintro e w5 ⟨rfl, hf, hmid⟩; have X2 := Lib.hid (let h := HBX.out w5 (hmid.2 b9 HNO.out.2.2 (fun h => h.elim HNO.out.1 HNO.out.2.1)); (⟨h.2.2.1, h.2.2.2.1⟩ : w5.cell? ⟨b9, 2, none⟩ = some (.string a.nm) ∧ w5.cell? ⟨b9, 3, none⟩ = some (.string a.tw))); have HF := Lib.hid hf; clear hf hmid)
                      | (go_at_call 17; refine (pair1 HPD.out HS.out).mono ?_; rintro e w4 ⟨rfl, hm1⟩; have X1 := Lib.hid (let h := HBX.out w4 (hm1.2.2.2.2 b9 HNO.out.2.2 HNO.out.1); (⟨h.2.2.1, h.2.2.2.1⟩ : w4.cell? ⟨b9, 2, none⟩ = some (.string a.nm) ∧ w4.cell? ⟨b9, 3, none⟩ = some (.string a.tw))); have HM1 := Lib.hid hm1; clear hm1)
                      | (go_at_call 17; refine (pair4 HPD.out HS.out HM2.out).mono ?_; rintro e w5 ⟨rfl, hf, hmid⟩; have X2 := Lib.hid (let h := HBX.out w5 (hmid.2 b9 HNO.out.2.2 (fun h => h.elim HNO.out.1 HNO.out.2.1)); (⟨h.2.2.1, h.2.2.2.1⟩ : w5.cell? ⟨b9, 2, none⟩ = some (.string a.nm) ∧ w5.cell? ⟨b9, 3, none⟩ = some (.string a.tw))); have HF := Lib.hid hf; clear hf hmid)
                      | (go_at_call 18; refine (pair3 HPD.out HU.out (by have := HN.out; omega) HR.out).mono ?_; rintro e w4 ⟨rfl, hm2⟩; have X1 := Lib.hid (let h := HBX.out w4 (hm2.2.2.2.2 b9 HNO.out.2.2 HNO.out.2.1); (⟨h.2.2.1, h.2.2.2.1⟩ : w4.cell? ⟨b9, 2, none⟩ = some (.string a.nm) ∧ w4.cell? ⟨b9, 3, none⟩ = some (.string a.tw))); have HM2 := Lib.hid hm2; clear hm2))
                  all_goals
                    go_wp2
                    obtain ⟨mb', L', x', hpl⟩ := HF.out
                    have HPL := Lib.hid hpl
                    clear hpl HF HM1 X1 X2 X0
                    go_meet
                    exact ⟨p, _, mb', L', x', rfl, rfl, HPL.out.more⟩
              · by_cases k4 : kk = 4
                · as_aux_lemma =>
                    subst k4
                    obtain ⟨r, hr⟩ : ∃ r, r = drpE s L a.nm := ⟨_, rfl⟩
                    obtain ⟨rr, hrr⟩ : ∃ rr, rr = dr2E s L a.nm a.tw := ⟨_, rfl⟩
                    have hdt := Drop_two (w := WB) (s := s) (mb := mb) (L := L) a.nm a.tw HPB.out.st
                    rw [← hrr] at hdt
                    have HDT := Lib.hid hdt
                    have HDA : Hid (∀ w4, Mv WB w4 p mb L (dr2S s L a.nm a.tw) mb (dr2L s L a.nm a.tw) → Calls Try.prog 20 #[.pointer (some ⟨q, 0, none⟩), .string a.nm] w4 fun e w' => e = .returned (.int .i64 r) ∧ ∃ x2, Rm w4 w' q x x2 ∧ Alike (drpL s L a.nm) x2.D ∧ Rl (drpS s L a.nm) x2 ∧ Good x2.D (2 * i + 1)) := fun w4 mv => by
                      rw [hr]; exact HPB.out.drop1 a.nm a.tw HU.out HN.out mv
                    have HR := Lib.hid hr
                    have HRR := Lib.hid hrr
                    clear hr hrr hdt x0 x1 x4
                    have x0 := (HBX.out WB rfl).1
                    go_upto_region 29 with (first
                      | (go_at_call 20; (with_reducible refine (HDA.out _ HMV.out).mono ?_); rintro e w5 ⟨rfl, hx5⟩; obtain ⟨xx, hm, hal, hl, hg⟩ := hx5; have y3 := (HBX.out w5 ((hm.off.2 b9 (Nat.lt_of_lt_of_le HNO.out.2.2 HMV.out.off.1.size) HNO.out.2.1).trans (HMV.out.off.2 b9 HNO.out.2.2 HNO.out.1))).2.2.2.1; have HX5 := Lib.hid (And.intro hm (And.intro hal (And.intro hl hg))); clear hm hal hl hg)
                      | (go_at_call 19; (with_reducible refine HDT.out.mono ?_); rintro e w4 ⟨rfl, hmv⟩; have y2 := (HBX.out w4 (hmv.off.2 b9 HNO.out.2.2 HNO.out.1)).2.2.1; have HMV := Lib.hid hmv; clear hmv))
                    clear x0 x2 x3 y2
                    by_cases r0 : r = 0
                    · subst r0
                      have HDB : Hid (Calls Try.prog 20 #[.pointer (some ⟨q, 0, none⟩), .string a.tw] w5 fun e w' => e = .returned (.int .i64 rr) ∧ Fin w w' p q u (2 * i + 2) (dr2S s L a.nm a.tw)) := by
                        show Calls _ _ _ _ _
                        rw [HRR.out]; exact HPB.out.drop2 a.nm a.tw HU.out HN.out HMV.out HR.out.symm HX5.out.1 HX5.out.2.1 HX5.out.2.2.1 HX5.out.2.2.2
                      go_wp2_with (go_at_call 20; (with_reducible refine HDB.out.mono ?_); rintro e w6 ⟨rfl, hf⟩; have HF := Lib.hid hf; clear hf)
                      clear y3
                      obtain ⟨mb', L', x', hpl⟩ := HF.out
                      have HPL := Lib.hid hpl
                      clear hpl HF HX5 HDB HDA HDT
                      go_meet
                      exact ⟨p, _, mb', L', x', rfl, rfl, HPL.out⟩
                    · have hf := HPB.out.drop3 (W2 := w5) a.nm a.tw HMV.out (by rw [← HR.out]; exact r0) HX5.out.1 HX5.out.2.1 HX5.out.2.2.1 HX5.out.2.2.2
                      have e2 : rr = r := by rw [HRR.out, HR.out]; exact hf.2
                      have HF := Lib.hid hf.1
                      clear hf
                      subst e2
                      clear HRR
                      go_wp2
                      clear y3
                      obtain ⟨mb', L', x', hpl⟩ := HF.out
                      have HPL := Lib.hid hpl
                      clear hpl HF HX5 HDA HDT
                      go_meet
                      exact ⟨p, _, mb', L', x', rfl, rfl, HPL.out⟩
                · by_cases k5 : kk = 5
                  · as_aux_lemma =>
                      subst k5
                      have HAM := Lib.hid (Arm_any WB p s mb L a.n HPB.out.st HAN.out)
                      clear x0 x2 x3 x4
                      have x0 := (HBX.out WB rfl).1
                      go_upto_region 34 with (go_at_call 21; (with_reducible refine HAM.out.mono ?_); rintro e w4 ⟨rfl, hmv⟩; have y1 := (HBX.out w4 (hmv.off.2 b9 HNO.out.2.2 HNO.out.1)).2.1; have HMV := Lib.hid hmv; clear hmv)
                      obtain ⟨q2, _, qf2, _⟩ := rq_cells (HPB.out.mid HMV.out).1
                      have hf := HPB.out.arm HAN.out HMV.out
                      obtain ⟨mz, hmz⟩ : ∃ mz, mz = max a.n (-1) := ⟨_, rfl⟩
                      rw [← hmz] at hf
                      have hmz2 := hmz.symm
                      clear x0 x1 hmz
                      go_wp2
                      clear q2 qf2 y1 hmz2
                      generalize w4.setCell ⟨q, 2, none⟩ (.int .i64 mz) = w5 at hf ⊢
                      have HF := Lib.hid hf
                      clear hf

                      obtain ⟨mb', L', x', hpl⟩ := HF.out
                      have HPL := Lib.hid hpl
                      clear hpl HF HAM HMV
                      go_meet
                      exact ⟨p, _, mb', L', x', rfl, rfl, HPL.out.more⟩
                  · by_cases k6 : kk = 6
                    · as_aux_lemma =>
                        subst k6
                        have HRV := Lib.hid (Revive_any WB p s mb L HPB.out.st)
                        clear x0 x1 x2 x3 x4
                        have x0 := (HBX.out WB rfl).1
                        go_upto_region 37 with (go_at_call 22; (with_reducible refine HRV.out.mono ?_); rintro e w4 ⟨rfl, hmv⟩; have HMV := Lib.hid hmv; clear hmv)
                        obtain ⟨q2, q3, qf2, qf3⟩ := rq_cells (HPB.out.mid HMV.out).1
                        have hf := HPB.out.revive HMV.out
                        clear x0
                        go_wp2
                        clear q2 qf2 q3 qf3
                        generalize (w4.setCell ⟨q, 2, none⟩ (.int .i64 (-1))).setCell ⟨q, 3, none⟩ (.bool false) = w5 at hf ⊢
                        have HF := Lib.hid hf
                        clear hf

                        obtain ⟨mb', L', x', hpl⟩ := HF.out
                        have HPL := Lib.hid hpl
                        clear hpl HF HRV HMV
                        go_meet
                        exact ⟨p, _, mb', L', x', rfl, rfl, HPL.out.more⟩
                    · by_cases k7 : kk = 7
                      · as_aux_lemma =>
                          subst k7
                          have HCP := Lib.hid (copy_all WB p s mb L HPB.out.st)
                          clear x0 x1 x2 x3 x4
                          have x0 := (HBX.out WB rfl).1
                          go_upto_region 42 with (go_at_call 23; (with_reducible refine HCP.out.mono ?_); rintro e w4 ⟨rfl, mb4, L4, hc4⟩; have HC4 := Lib.hid hc4; clear hc4)
                          have HKX := Lib.hid (kx (HPB.out.st.below HC4.out.2.1))
                          obtain ⟨pc, hpc⟩ : ∃ pc, pc = WB.heap.size := ⟨_, rfl⟩
                          rw [← hpc]
                          have HPC := Lib.hid hpc
                          clear hpc
                          clear x0
                          have kc := fun (w : World) (C : Array Value) (n c : Nat) => Lib.run_convert_bytes_const (P := Try.prog) w 32 5 C n c Try.underlying32 Try.underlying5
                          go_wp2_with (go_at_call 13; (with_reducible refine HKX.out.mono ?_); rintro e w5 ⟨r5, s5, L5, rfl, hm5⟩; have HM5 := Lib.hid hm5; clear hm5)
                          have hf : Fin w w5 pc q u (2 * i) s := by
                            have hl : Below w4.heap.size w4 (w4.alloc (.cells #[.int .u8 121] 5 (1, 2))) := (Below.refl _ _).alloc (Nat.le_refl _) _
                            obtain ⟨a1, a2, a3, a4⟩ := HC4.out
                            have hc : Copied WB (w4.alloc (.cells #[.int .u8 121] 5 (1, 2))) s L mb4 L4 := ⟨a1.below hl, a2.trans (hl.mono a2.size), a3, a4⟩
                            rw [HPC.out]
                            exact ⟨_, _, _, HPB.out.copy hc HM5.out⟩
                          have HF := Lib.hid hf
                          clear hf HM5 HKX kc

                          obtain ⟨mb', L', x', hpl⟩ := HF.out
                          have HPL := Lib.hid hpl
                          clear hpl HF HC4 HCP
                          go_meet
                          exact ⟨pc, _, mb', L', x', rfl, rfl, HPL.out.more0⟩
                      · as_aux_lemma =>
                          have HRD := Lib.hid (read_any WB p s mb L a.nm HPB.out.st)
                          have k8 : kk = 8 := by omega
                          subst k8
                          clear x0 x1 x3 x4
                          have x0 := (HBX.out WB rfl).1
                          go_upto_region 14 with (go_at_call 24; (with_reducible refine HRD.out.mono ?_); rintro e w4 ⟨A4, n4, c4, rfl, h4, ho4, hb4⟩; have HO4 := Lib.hid ho4; have HB4 := Lib.hid hb4; have HL4 := Lib.hid h4; clear h4 ho4 hb4)
                          obtain ⟨bl, hbl⟩ : ∃ bl, bl = bytL L a.nm := ⟨_, rfl⟩
                          have h4 := HL4.out
                          have ho4 := HO4.out
                          rw [← hbl] at h4 ho4
                          rw [← h4] at ho4
                          have hn4 : n4 ≤ 1000 := by
                            have e1 := byt_used L a.nm
                            have e2 := HPB.out.st.room.1
                            have e3 := HPB.out.room
                            rw [← hbl] at e1
                            omega
                          have HO5 := Lib.hid ho4
                          clear h4 ho4 hbl HL4 HO4 x0 x2
                          go_wp2
                          go_loopg [16] n4 (fun (gh : Nat) s16 wx => ∃ j : Nat, gh = n4 - j ∧ j ≤ n4 ∧ s16 = .int .i64 (j : Int) ∧ Hid (∃ xs, wx.ownsRow WB.heap.size 5 1 (.slice A4 n4 c4) n4 xs ∧ Below WB.heap.size WB wx))
                          case atStart => exact ⟨0, rfl, Nat.zero_le _, rfl, _, HO5.out, HB4.out⟩
                          case round =>
                            obtain ⟨j, rfl, hj, rfl, hinv2⟩ := hrel
                            obtain ⟨xs, hxs, hbx⟩ := hinv2.out
                            by_cases hlt2 : j < n4
                            · rcases Go.Joins.ownsRow_forms hxs with ⟨e7, h0⟩ | ⟨gm, cm, e7⟩
                              · omega
                              simp only [Value.slice.injEq] at e7
                              obtain ⟨rfl, _, rfl⟩ := e7
                              have s1 : (j : Int) < (n4 : Int) := by omega
                              have s2 : (0 : Int) ≤ (j : Int) := by omega
                              have hxl : xs.length = n4 * 1 := hxs.1
                              obtain ⟨y, hy⟩ : ∃ y, xs[j]? = some y := ⟨_, List.getElem?_eq_getElem (by omega)⟩
                              have cc : wr.cell? ⟨gm, j, none⟩ = some y := (hxs.cellAt j (by omega)).trans hy
                              have ff : wr.frozen? ⟨gm, j, none⟩ = false := hxs.frozenAt _
                              have NX : Hid (∃ xs, (wr.setCell ⟨gm, j, none⟩ (.int .u8 1)).ownsRow WB.heap.size 5 1 (.slice (some ⟨gm, 0, none⟩) n4 c4) n4 xs ∧ Below WB.heap.size WB (wr.setCell ⟨gm, j, none⟩ (.int .u8 1))) :=
                                ⟨_, (hxs.stored j (.int .u8 1)).1, hbx.setCell (p := ⟨gm, j, none⟩) (hxs.lt gm rfl).1 _⟩
                              have HLT := Lib.hid hlt2
                              clear hinv2 hxs hbx hy hxl hlt2
                              go_wp2
                              go_roundg (n4 - (j + 1))
                              case measure => have := HLT.out; omega
                              case rel => exact ⟨j + 1, rfl, HLT.out, by go_num, NX⟩
                            · obtain rfl : j = n4 := by omega
                              have HF : Hid (Fin w wr p q u (2 * i) s) := ⟨_, _, _, HPB.out.below hbx⟩
                              clear hinv2 hxs hbx HO5 HB4 HRD hlt2
                              go_wp2
                              obtain ⟨mb', L', x', hpl⟩ := HF.out
                              have HPL := Lib.hid hpl
                              clear hpl HF HAN
                              go_meet
                              exact ⟨p, _, mb', L', x', rfl, rfl, HPL.out.more0⟩
      case rest =>
        clear HPB HBX x0 x1 x2 x3 x4 HNO HBT HHM hkr hsl hmin HAN
        obtain ⟨p2, s2, mb', L', x', rfl, rfl, hpl2⟩ := hcut
        have hpl := hpl2.out
        have HPL := Lib.hid hpl
        have hus := (hpl.fit HU.out (by have := HN.out; omega) hpl.rf).used
        have hsm := lsame_any hpl.st hpl.rf hpl.rl hpl.al (Nat.le_trans hpl.good.2.1 (by have := HN.out; omega)) hpl.good.2.2 hus
        have hrm : ∀ W, Below wc.heap.size wc W → Calls Try.prog 26 #[.pointer (some ⟨p2, 0, none⟩)] W fun e w' => e = .returned (.int .i64 u) ∧ W = w' := fun W hW => by
          have := room_own W p2 _ mb' ((hpl.st.below hW).blk)
          rw [hpl.room] at this; exact this
        have HSM := Lib.hid hsm
        have HRM := Lib.hid hrm
        clear hpl hus hsm hrm hpl2
        go_wp2_with (first
          | (go_at_call 26; (with_reducible refine (HRM.out _ HB9.out).mono ?_); rintro e w' ⟨rfl, rfl⟩)
          | (go_at_call 25; (with_reducible refine HSM.out.mono ?_); rintro e w9 ⟨rfl, hb9⟩; have HB9 := Lib.hid hb9; clear hb9))
        go_roundg (m0 - (i + 1))
        case measure => omega
        case rel => exact ⟨i + 1, p2, _, mb', L', x', rfl, by omega, rfl, by go_num, HPL.out.below HB9.out, trivial, trivial, trivial, trivial, trivial, trivial, trivial, trivial⟩
    · obtain rfl : i = m0 := by omega
      have HKN := Lib.hid (known_any wr)
      have HBW := Lib.hid hinv.out.bel
      clear hinv
      rcases hx0.out with ⟨hA, hA2⟩ | hA
      all_goals
        go_wp2_with (go_at_call 27; (with_reducible refine HKN.out.mono ?_); rintro e w8 ⟨rfl, hb⟩; have HB8 := Lib.hid hb; clear hb)
        go_ret
        exact ⟨rfl, HBW.out.trans (HB8.out.mono HBW.out.size)⟩
end Go.Proofs.Ytffeinbbgfogoaa.Sr
