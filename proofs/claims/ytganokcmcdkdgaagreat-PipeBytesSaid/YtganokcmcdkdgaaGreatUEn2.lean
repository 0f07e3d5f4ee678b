/-
  The contract of the reference's Encode. Conditions: a right packet of at most two hundred bytes.
-/
import Derived.Test.YtganokcmcdkdgaaGreatUEn1
import Derived.Test.YtganokcmcdkdgaaGreatPZ18
import Derived.Test.YtganokcmcdkdgaaGreatFRef
import Derived.Laws.OwnMore
namespace Go.Proofs.YtganokcmcdkdgaaGreat.Pi
open Go.RowKit Fr

/-- A row of bytes of one's own, beside the block k. -/
structure RO (w : World) (k : Nat) (o : Obj) (v : Value) (l : List Int) (W : World) : Prop where
  own : W.ownsRow (k + 1) 5 1 v l.length (bv l)
  bel : Below w.heap.size w W
  blk : W.heap[k]? = some o
  ge : w.heap.size ≤ k
theorem RO.below {w W W' : World} {k : Nat} {o : Obj} {v : Value} {l : List Int} (h : RO w k o v l W) (hb : Below W.heap.size W W') : RO w k o v l W' :=
  ⟨Oc.ownsRow_kept h.own (fun g hg => hb.block g (h.own.lt g hg).2), h.bel.trans (hb.mono h.bel.size), Tb.block_kept h.blk hb, h.ge⟩
theorem RO.app {w W : World} {k m p : Nat} {o : Obj} {v u : Value} {l bs l' : List Int} (h : RO w k o v l W) (hu : BAt W u bs) (hl : l.length + bs.length ≤ 4000) (hp : l' = l ++ bs) (hm : m = p + bs.length) (hq : p = l.length) :
    ∃ A c w2, (Builtin.append_ #[22, 22] 22 #[v, u]).run Tryz.prog W = .ok (.slice A m c) w2 ∧ RO w k o (.slice A m c) l' w2 := by
  subst hp hm hq
  have hsz : k < W.heap.size := (Array.getElem?_eq_some_iff.1 h.blk).1
  obtain ⟨A, c, w2, h1, h2, h3⟩ := app_any W (k + 1) v l h.own u bs hu (by omega) (by omega)
  refine ⟨A, c, w2, h1, ⟨?_, h.bel.grown h3 h.bel.size (fun j hj => by have := (h.own.lt j hj).1; have := h.ge; omega), (h3.block k hsz (fun e => by have := (h.own.lt k e.symm).1; omega)).trans h.blk, h.ge⟩⟩
  rw [List.length_append] at h2 ⊢
  exact h2
set_option maxRecDepth 100000 in
set_option maxHeartbeats 8000000 in
theorem rencode_any (w : World) (k f t n : Int) (A : Option Addr) (q c : Nat) (x : List Int) (h : BAt w (.slice A q c) x) (hb : bok x) (hq : q ≤ 200) (hok : chkE k f t n q = 0) :
    Calls Tryz.prog 13 #[.agg #[.int .i64 k, .int .i64 f, .int .i64 t, .int .i64 n, .slice A q c]] w fun e w' => ∃ A' q' c', e = .returned (.slice A' q' c') ∧ q' = (frF (pkB k f t n x)).length ∧ BAt w' (.slice A' q' c') (frF (pkB k f t n x)) ∧ Below w.heap.size w w' := by
  have hl := h.len.1
  have hok := chk_ok hok
  obtain ⟨N, rfl⟩ : ∃ N : Nat, n = (N : Int) := ⟨n.toNat, by have := hok.2.1; omega⟩
  have HOK := Lib.hid hok
  have i1 : IntKind.u8.wrap k = k := by rw [IntKind.wrap_u8]; have := hok.1; omega
  have i2 : IntKind.u8.wrap f = f := by rw [IntKind.wrap_u8]; have := hok.2.2.2.1; omega
  have i3 : IntKind.u8.wrap t = t := by rw [IntKind.wrap_u8]; have := hok.2.2.2.2.1; omega
  have i4 : IntKind.u64.wrap (N : Int) = (N : Int) := by rw [IntKind.wrap_u64]; have := hok.2.1; omega
  have i5 : IntKind.u64.wrap (q : Int) = (q : Int) := by rw [IntKind.wrap_u64]; omega
  have hb0 : Below w.heap.size w (w.alloc (.cells #[.int .i64 k, .int .i64 f, .int .i64 t, Value.int .i64 (N : Int), .slice A q c] 24)) := (Below.refl _ w).alloc (Nat.le_refl _) _
  have E0 := Tb.block_new w (.cells #[.int .i64 k, .int .i64 f, .int .i64 t, Value.int .i64 (N : Int), .slice A q c] 24)
  obtain ⟨c0, c1, c2, c3, c4⟩ := blk5 E0
  have hz1 : (w.alloc (.cells #[.int .i64 k, .int .i64 f, .int .i64 t, Value.int .i64 (N : Int), .slice A q c] 24)).heap.size = w.heap.size + 1 := by simp
  have HRO0 : Hid (RO w w.heap.size (.cells #[.int .i64 k, .int .i64 f, .int .i64 t, Value.int .i64 (N : Int), .slice A q c] 24) (.slice (some ⟨w.heap.size + 1, 0, none⟩) 3 3) [k, f, t] ((w.alloc (.cells #[.int .i64 k, .int .i64 f, .int .i64 t, Value.int .i64 (N : Int), .slice A q c] 24)).alloc (.cells #[.int .u8 k, .int .u8 f, .int .u8 t] 5))) := by
    refine ⟨?_, hb0.alloc hb0.size _, Tb.block_old E0 _, Nat.le_refl _⟩
    have := World.ownsRow_lit (e := 5) (size := 1) (base := w.heap.size + 1) (w.alloc (.cells #[.int .i64 k, .int .i64 f, .int .i64 t, Value.int .i64 (N : Int), .slice A q c] 24)) #[.int .u8 k, .int .u8 f, .int .u8 t] 3 (by omega) (by decide) rfl
    rw [hz1] at this
    exact this
  have HFG := Lib.hid (fun (W : World) (m : Nat) (hm : m < 18446744073709551616) => Oc.fgroups_any W m hm)
  have HX : Hid (BAt w (.slice A q c) x ∧ bok x ∧ q ≤ 200 ∧ x.length = q) := ⟨h, hb, hq, hl⟩
  obtain ⟨g, hg⟩ : ∃ g, g = (Oc.grp N).length := ⟨_, rfl⟩
  obtain ⟨m1, hm1⟩ : ∃ m1, m1 = 3 + g := ⟨_, rfl⟩
  have HG : Hid (g = (Oc.grp N).length ∧ m1 = 3 + g ∧ g ≤ 10 ∧ 1 ≤ g) := ⟨hg, hm1, by rw [hg]; exact (Oc.grp_len _).1, by rw [hg]; exact (Oc.grp_len _).2⟩
  have HPB : Hid (bok (pkB k f t N x)) := pkB_bok (by have := hok.1; omega) (by have := hok.2.2.2.1; omega) (by have := hok.2.2.2.2.1; omega) hok.2.1.2 hb (by omega)
  have hn64 : N < 18446744073709551616 := by have := hok.2.1; omega
  have HN64 := Lib.hid hn64
  clear h hb hl hb0 hok hg hm1 E0 hq hn64
  go_enter Tryz.func13, Tryz.ntmps13
  go_upto_region 3 with (first
    | (at_builtin; refine Lib.wpList_append_run _ rfl _ _ 22 22 rfl _ _ rfl rfl _ _ HR2.out ?_)
    | (go_at_call 39; (with_reducible refine (HFG.out _ _ HN64.out).mono ?_); rintro e w1 ⟨v1, rfl, ho1, hb1⟩
       obtain ⟨A2, c2', w2, hr2, s2⟩ := (HRO0.out.below hb1).app (m := m1) (p := 3) (BAt.of_own ho1) (by have := (Oc.grp_len N).1; simp; omega) rfl (by have := HG.out; omega) rfl
       have HR2 := Lib.hid hr2
       have HS2 := Lib.hid s2
       clear hr2 s2 ho1 hb1))
  obtain ⟨d0, d1, d2, d3, d4⟩ := blk5 HS2.out.blk
  obtain ⟨m, hm⟩ : ∃ m, m = (pkB k f t N x).length := ⟨_, rfl⟩
  obtain ⟨m8, hm8⟩ : ∃ m8, m8 = m + 8 := ⟨_, rfl⟩
  have HM : Hid (m = (pkB k f t N x).length ∧ m8 = m + 8 ∧ m8 = (frF (pkB k f t N x)).length ∧ m ≤ 1000) := ⟨hm, hm8, by rw [hm8, frF_len, hm], by have := pkB_len k f t N x; have := HX.out; omega⟩
  have HMK : Hid (∀ W A c, BAt W (.slice A m c) (pkB k f t N x) → Calls Tryz.prog 40 #[.slice A m c] W fun e w' => ∃ A' c', e = .returned (.slice A' m8 c') ∧ BAt w' (.slice A' m8 c') (frF (pkB k f t N x)) ∧ Below W.heap.size W w') := fun W A c hW => rmake_any W A m c m8 _ hW HPB.out (by have := HM.out; omega) HM.out.2.1
  clear hm hm8
  by_cases hk : k = 1
  · subst hk
    have hpl : (pkB 1 f t N x).length = 3 + g + (Oc.grp q).length + q := by
      rw [pkB_eq, if_pos rfl]
      have h1 := HX.out.2.2.2
      have h2 := HG.out.1
      simp only [List.length_append, List.length_cons, List.length_nil, Int.toNat_natCast, h1]; omega
    have HPL := Lib.hid hpl
    have HL1 : Hid (pkB 1 f t N x = ([1, f, t] ++ Oc.grp N ++ Oc.grp q) ++ x) := by
      show _ = _
      rw [pkB_eq, if_pos rfl, HX.out.2.2.2]; simp
    have hq64 : q < 18446744073709551616 := by have := HX.out; omega
    have HQ64 := Lib.hid hq64
    obtain ⟨m2, hm2⟩ : ∃ m2, m2 = m1 + (Oc.grp q).length := ⟨_, rfl⟩
    have HM2 : Hid (m = m2 + q ∧ m2 = ([1, f, t] ++ Oc.grp N ++ Oc.grp q).length ∧ m1 = ([1, f, t] ++ Oc.grp N).length) := by
      refine ⟨?_, ?_, ?_⟩
      · have := HM.out.1; have := HG.out; omega
      · have := HG.out; simp only [List.length_append, List.length_cons, List.length_nil]; omega
      · have := HG.out; simp only [List.length_append, List.length_cons, List.length_nil]; omega
    have HM3 := Lib.hid hm2
    clear hpl hq64 hm2
    go_wp2_with (first
      | (go_at_call 40; (with_reducible refine (HMK.out _ _ _ HD5.out).mono ?_); rintro e w6 ⟨A6, c6, rfl, hb6, hbel6⟩; have HD6 := Lib.hid hb6; have HB6 := Lib.hid hbel6; clear hb6 hbel6)
      | (at_builtin; refine Lib.wpList_append_run _ rfl _ _ 22 22 rfl _ _ rfl rfl _ _ HR5.out ?_)
      | (at_builtin; refine Lib.wpList_append_run _ rfl _ _ 22 22 rfl _ _ rfl rfl _ _ HR4.out ?_)
      | (go_at_call 39; (with_reducible refine (HFG.out _ _ HQ64.out).mono ?_); rintro e w3 ⟨v3, rfl, ho3, hb3⟩
         obtain ⟨A4, c4', w4, hr4, s4⟩ := (HS2.out.below hb3).app (m := m2) (p := m1) (BAt.of_own ho3) (by have := HG.out; have := (Oc.grp_len q).1; simp only [List.length_append, List.length_cons, List.length_nil]; omega) rfl HM3.out HM2.out.2.2
         have HR4 := Lib.hid hr4
         have HS4 := Lib.hid s4
         obtain ⟨f0, f1, f2, f3, f4⟩ := blk5 s4.blk
         obtain ⟨A5, c5', w5, hr5, s5⟩ := s4.app (m := m) (p := m2) (HX.out.1.kept s4.bel) (by have := HG.out; have := HX.out; have := (Oc.grp_len q).1; simp only [List.length_append, List.length_cons, List.length_nil]; omega) HL1.out (by rw [HX.out.2.2.2]; exact HM2.out.1) HM2.out.2.1
         have HR5 := Lib.hid hr5
         have HB5 := Lib.hid s5.bel
         have HD5 : Hid (BAt w5 (.slice A5 m c5') (pkB 1 f t N x)) := by have := s5.own; rw [← HM.out.1] at this; exact BAt.of_own (by rw [← HM.out.1]; exact this)
         clear hr4 s4 hr5 s5 ho3 hb3))
    go_ret
    exact ⟨_, _, _, rfl, HM.out.2.2.1, HD6.out, HB5.out.trans (HB6.out.mono HB5.out.size)⟩
  · have ek : (k == 1) = false := by simpa using hk
    have HL1 : Hid (pkB k f t N x = [k, f, t] ++ Oc.grp N) := by
      show _ = _
      rw [pkB_eq, if_neg hk]; simp
    have HM2 : Hid (m = m1) := by
      show _ = _
      have h1 := HM.out.1
      rw [HL1.out] at h1
      have := HG.out
      simp only [List.length_append, List.length_cons, List.length_nil] at h1; omega
    obtain rfl := HM2.out
    have HD5 : Hid (BAt w2 (.slice A2 m c2') (pkB k f t N x)) := by
      have := HS2.out.own
      rw [← HL1.out, ← HM.out.1] at this
      exact BAt.of_own (by rw [← HM.out.1]; exact this)
    have HB5 := Lib.hid HS2.out.bel
    go_wp2_with (first
      | (go_at_call 40; (with_reducible refine (HMK.out _ _ _ HD5.out).mono ?_); rintro e w6 ⟨A6, c6, rfl, hb6, hbel6⟩; have HD6 := Lib.hid hb6; have HB6 := Lib.hid hbel6; clear hb6 hbel6))
    go_ret
    exact ⟨_, _, _, rfl, HM.out.2.2.1, HD6.out, HB5.out.trans (HB6.out.mono HB5.out.size)⟩
end Go.Proofs.YtganokcmcdkdgaaGreat.Pi
