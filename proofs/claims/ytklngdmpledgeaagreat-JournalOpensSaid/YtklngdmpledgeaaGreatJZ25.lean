/-
  Mathematics of a journal's file: the frames of records, and what is torn behind them. Conditions: none.
-/
import Derived.Test.YtklngdmpledgeaaGreatJTrim
namespace Go.Proofs.YtklngdmpledgeaaGreat.Jo
open Go.RowKit Fr Sr

theorem nn_app {body r : List Int} (h : body.length ≤ 1048568) : nn (frF body ++ r) = body.length := by
  have h1 : 4 ≤ (frF body).length := by rw [frF_len]; omega
  unfold nn
  rw [List.take_append_of_le_length h1]
  exact frF_nn h
theorem nxE_app {body r : List Int} (h : body.length ≤ 1048568) : nxE (frF body ++ r) = 0 ∧ nxB (frF body ++ r) = body ∧ nxN (frF body ++ r) = (frF body).length := by
  have hn := nn_app (r := r) h
  have hl := frF_len body
  have h0 : nxE (frF body ++ r) = 0 := by
    refine nxE_mk (by rw [hn]; exact h) (by rw [hn, List.length_append, hl]; omega) ?_
    unfold tail4
    rw [hn, List.drop_append_of_le_length (by rw [hl]; omega), List.take_append_of_le_length (by rw [List.length_drop, hl]; omega), List.take_append_of_le_length (by rw [hl]; omega)]
    have h1 := (nxE_ok (frF_nxE h)).2.2.2
    unfold tail4 at h1
    rw [frF_nn h] at h1
    exact h1
  refine ⟨h0, ?_, ?_⟩
  · unfold nxB
    rw [if_pos h0, hn, List.drop_append_of_le_length (by rw [hl]; omega), List.take_append_of_le_length (by rw [List.length_drop, hl]; omega)]
    have h1 := frF_body h
    rw [frF_nn h] at h1
    exact h1
  · unfold nxN
    rw [if_pos h0, hn, hl]
theorem nxE_torn {body : List Int} (h : body.length ≤ 1048568) {u : Nat} (hu : u < (frF body).length) : nxE ((frF body).take u) ≠ 0 := fun e => by
  obtain ⟨h1, _, h2, _⟩ := nxE_ok e
  have h3 : ((frF body).take u).length = u := by rw [List.length_take]; omega
  have h4 : nn ((frF body).take u) = body.length := by
    unfold nn
    rw [List.take_take, Nat.min_eq_left (by omega)]
    exact frF_nn h
  rw [h4, h3] at h2
  rw [frF_len] at hu
  omega
def cks : Nat → List Re → List Rc
  | _, [] => []
  | q, r :: l => (q + (recF r.1 r.2).length, r) :: cks (q + (recF r.1 r.2).length) l
def Sq : Nat → List Re → Prop
  | _, [] => True
  | n, r :: l => r.1 = n ∧ Sq (n + 1) l
def Bnd (rs : List Re) : Prop := ∀ r ∈ rs, r.2.length ≤ 1000 ∧ r.1 ≤ 4611686018427387903
theorem dec_grp {n : Nat} (l : List Int) (h : n ≤ 4611686018427387903) : dec (Oc.grp n ++ l) = some (n, l) := by
  have h1 := Oc.rg_grp n l (by omega)
  unfold dec
  rw [h1]
  exact if_pos ⟨rfl, h⟩
theorem body_le {r : Re} (h : r.2.length ≤ 1000 ∧ r.1 ≤ 4611686018427387903) : (Oc.grp r.1 ++ r.2).length ≤ 1048568 := by
  rw [List.length_append]
  have := (Oc.grp_len r.1).1
  omega
theorem cnt_go {t : List Int} (ht : nxE t ≠ 0) : ∀ (rs : List Re) (q nx k : Nat), Sq nx rs → Bnd rs → ((frs rs).flatten ++ t).length < k → cntF nx (Fr.frs k q ((frs rs).flatten ++ t)) = cks q rs
  | [], q, nx, k, _, _, hk => by
    cases k with
    | zero => omega
    | succ k =>
      have e : Fr.frs (k + 1) q ((frs []).flatten ++ t) = [] := by
        show Fr.frs (k + 1) q t = []
        rw [Fr.frs, if_neg ht]
      rw [e]; rfl
  | r :: rs, q, nx, k, hs, hb, hk => by
    cases k with
    | zero => omega
    | succ k =>
      have hr := hb r (by simp)
      have e1 : (frs (r :: rs)).flatten ++ t = recF r.1 r.2 ++ ((frs rs).flatten ++ t) := by simp [frs]
      obtain ⟨g1, g2, g3⟩ := nxE_app (r := (frs rs).flatten ++ t) (body_le hr)
      rw [e1] at hk ⊢
      have e2 : Fr.frs (k + 1) q (recF r.1 r.2 ++ ((frs rs).flatten ++ t)) = (q, Oc.grp r.1 ++ r.2) :: Fr.frs k (q + (recF r.1 r.2).length) ((frs rs).flatten ++ t) := by
        unfold recF
        rw [Fr.frs, if_pos g1, g2, g3, List.drop_left]
      rw [e2, cntF_good (dec_grp r.2 hr.2) (fun h => h.2 hs.1)]
      have h3 : 8 ≤ (recF r.1 r.2).length := by rw [recF_len]; omega
      have hk2 : ((frs rs).flatten ++ t).length < k := by rw [List.length_append] at hk; omega
      have e3 : q + (Oc.grp r.1 ++ r.2).length + 8 = q + (recF r.1 r.2).length := by rw [recF_len, List.length_append]; omega
      have ih := cnt_go ht rs (q + (recF r.1 r.2).length) (r.1 + 1) k (by rw [hs.1]; exact hs.2) (fun x hx => hb x (by simp [hx])) hk2
      rw [ih, cks]
      show (q + (Oc.grp r.1 ++ r.2).length + 8, (r.1, r.2)) :: _ = _
      rw [e3]
/-- What counts of the frames of records, with less than a frame behind them. -/
theorem cnt_frames {t : List Int} (ht : nxE t ≠ 0) (rs : List Re) (n : Nat) (hs : Sq n rs) (hb : Bnd rs) : cnt ((frs rs).flatten ++ t) = cks 0 rs := by
  unfold cnt allF
  cases rs with
  | nil => exact cnt_go ht [] 0 0 _ trivial hb (Nat.lt_succ_self _)
  | cons r rs =>
    have hr := hb r (by simp)
    have e1 : (frs (r :: rs)).flatten ++ t = recF r.1 r.2 ++ ((frs rs).flatten ++ t) := by simp [frs]
    obtain ⟨g1, g2, g3⟩ := nxE_app (r := (frs rs).flatten ++ t) (body_le hr)
    rw [e1]
    have e2 : Fr.frs ((recF r.1 r.2 ++ ((frs rs).flatten ++ t)).length + 1) 0 (recF r.1 r.2 ++ ((frs rs).flatten ++ t)) = (0, Oc.grp r.1 ++ r.2) :: Fr.frs (recF r.1 r.2 ++ ((frs rs).flatten ++ t)).length (0 + (recF r.1 r.2).length) ((frs rs).flatten ++ t) := by
      unfold recF
      rw [Fr.frs, if_pos g1, g2, g3, List.drop_left]
    rw [e2, cntF_good (dec_grp r.2 hr.2) (fun h => absurd h.1 (Nat.lt_irrefl 0))]
    have h3 : 8 ≤ (recF r.1 r.2).length := by rw [recF_len]; omega
    have ih := cnt_go ht rs (0 + (recF r.1 r.2).length) (r.1 + 1) (recF r.1 r.2 ++ ((frs rs).flatten ++ t)).length (by rw [hs.1]; exact hs.2) (fun x hx => hb x (by simp [hx])) (by
      have h4 : (recF r.1 r.2 ++ ((frs rs).flatten ++ t)).length = (recF r.1 r.2).length + ((frs rs).flatten ++ t).length := List.length_append
      omega)
    rw [ih, cks]
    show (0 + (Oc.grp r.1 ++ r.2).length + 8, (r.1, r.2)) :: _ = _
    have e3 : 0 + (Oc.grp r.1 ++ r.2).length + 8 = 0 + (recF r.1 r.2).length := by rw [recF_len, List.length_append]; omega
    rw [e3]
theorem recs_cks : ∀ (q : Nat) (rs : List Re), recs (cks q rs) = rs
  | _, [] => rfl
  | q, r :: l => by
    show r :: recs (cks _ l) = r :: l
    rw [recs_cks]
theorem whole_cks : ∀ (q : Nat) (rs : List Re), rs ≠ [] → whole (cks q rs) = q + (frs rs).flatten.length
  | _, [], h => absurd rfl h
  | q, [r], _ => by simp [cks, whole, frs]
  | q, r :: r2 :: l, _ => by
    have ih := whole_cks (q + (recF r.1 r.2).length) (r2 :: l) (by simp)
    have e1 : whole (cks q (r :: r2 :: l)) = whole (cks (q + (recF r.1 r.2).length) (r2 :: l)) := by
      simp [cks, whole]
    have e2 : (frs (r :: r2 :: l)).flatten.length = (recF r.1 r.2).length + (frs (r2 :: l)).flatten.length := by simp [frs]
    rw [e1, ih, e2]
    omega
theorem whole_frames (rs : List Re) : whole (cks 0 rs) = (frs rs).flatten.length := by
  cases rs with
  | nil => rfl
  | cons r l => rw [whole_cks 0 (r :: l) (by simp)]; omega
end Go.Proofs.YtklngdmpledgeaaGreat.Jo

namespace Go.Proofs.YtklngdmpledgeaaGreat.Jo
open Go.RowKit Fr Sr

set_option maxRecDepth 100000 in
set_option maxHeartbeats 2000000 in
theorem bsame_any (w : World) (u v : Value) (l m : List Int) (hu : BAt w u l) (hv : BAt w v m) (hn : l.length ≤ 2000000) (hm : m.length ≤ 2000000) :
    Calls Tryz.prog 11 #[u, v] w fun e w' => e = .returned (.bool (decide (l = m))) ∧ Below w.heap.size w w' := by
  obtain ⟨A, cap, rfl, k1, h1⟩ := hu
  obtain ⟨A', cap', rfl, k2, h2⟩ := hv
  obtain ⟨n, hn2⟩ : ∃ n, n = l.length := ⟨_, rfl⟩
  obtain ⟨n', hn3⟩ : ∃ n', n' = m.length := ⟨_, rfl⟩
  obtain ⟨q, hq⟩ : ∃ q, q = decide (l = m) := ⟨_, rfl⟩
  rw [← hn2] at h1 hn k1 ⊢
  rw [← hn3] at h2 hm k2 ⊢
  rw [← hq]
  have H1 := Lib.hid h1
  have H2 := Lib.hid h2
  have HQ := Lib.hid hq
  have HL := Lib.hid (And.intro hn2 hn3)
  have e0 : (0 : Int) ≤ (n : Int) := by omega
  clear h1 h2 hn2 hn3 hq
  by_cases hnn : n = n'
  · subst hnn
    go_enter Tryz.func11, Tryz.ntmps11
    go_wp2
    go_loopg [5] n (fun (gh : Nat) s5 wx => ∃ i : Nat, gh = n - i ∧ i ≤ n ∧ s5 = .int .i64 (i : Int) ∧ Below w.heap.size w wx ∧ Hid (∀ k, k < i → l.getD k 0 = m.getD k 0))
    case atStart => exact ⟨0, rfl, Nat.zero_le _, rfl, Below.refl _ _, fun k hk => absurd hk (Nat.not_lt_zero _)⟩
    case round =>
      obtain ⟨i, rfl, hi, rfl, hbel, HAll⟩ := hrel
      by_cases hlt : i < n
      · have t1 : (i : Int) < (n : Int) := by omega
        have t2 : (0 : Int) ≤ (i : Int) := by omega
        obtain ⟨g, o, rfl, lg, hc1⟩ := H1.out (by omega)
        obtain ⟨g', o', rfl, lg', hc3⟩ := H2.out (by omega)
        obtain ⟨r, hr⟩ : ∃ r, r = l.getD i 0 := ⟨_, rfl⟩
        obtain ⟨r', hr'⟩ : ∃ r', r' = m.getD i 0 := ⟨_, rfl⟩
        have c1 : wr.cell? ⟨g, o + i, none⟩ = some (.int .u8 r) := by rw [hr]; exact (hbel.cell (p := ⟨g, o + i, none⟩) lg).trans (hc1 i hlt)
        have c3 : wr.cell? ⟨g', o' + i, none⟩ = some (.int .u8 r') := by rw [hr']; exact (hbel.cell (p := ⟨g', o' + i, none⟩) lg').trans (hc3 i hlt)
        have HB := Lib.hid hbel
        have HR := Lib.hid (And.intro hr hr')
        clear hbel hr hr' hc1 hc3
        by_cases hrr : r = r'
        · have HRR := Lib.hid hrr
          subst hrr
          go_wp2_with fail
          go_quiet (fail)
          go_wp2
          go_roundg (n - (i + 1))
          case measure => omega
          case rel =>
            refine ⟨i + 1, rfl, hlt, by go_num, ⟨HB.out.os, HB.out.tape, HB.out.output, HB.out.size, HB.out.block⟩, fun k hk => ?_⟩
            by_cases hki : k = i
            · rw [hki, ← HR.out.1, ← HR.out.2]
            · exact HAll.out k (by omega)
        · have hq : q = false := by
            rw [HQ.out]
            refine decide_eq_false fun e => hrr ?_
            rw [HR.out.1, HR.out.2, e]
          have HQF := Lib.hid hq
          have hrb1 : (r == r') = false := by simpa using hrr
          have hrb2 : (r != r') = true := by simpa using hrr
          clear hq
          go_wp2_with fail
          go_quiet (fail)
          go_wp2
          go_ret
          exact ⟨by rw [HQF.out]; rfl, ⟨HB.out.os, HB.out.tape, HB.out.output, HB.out.size, HB.out.block⟩⟩
      · have hil : i = n := by omega
        subst hil
        have t1 : decide ((i : Int) < (i : Int)) = false := by simp
        have HB := Lib.hid hbel
        have hq : q = true := by
          rw [HQ.out]
          refine decide_eq_true (List.ext_getElem (by rw [← HL.out.1, ← HL.out.2]) fun k h3 h4 => ?_)
          have h5 := HAll.out k (by rw [HL.out.1]; exact h3)
          rw [List.getD_eq_getElem?_getD, List.getD_eq_getElem?_getD, List.getElem?_eq_getElem h3, List.getElem?_eq_getElem h4] at h5
          exact h5
        have HQT := Lib.hid hq
        clear hbel hq
        go_wp2
        go_ret
        exact ⟨by rw [HQT.out]; rfl, HB.out⟩
  · have hq : q = false := by
      rw [HQ.out]
      refine decide_eq_false fun e => hnn ?_
      rw [HL.out.1, HL.out.2, e]
    have hne : ¬ (n : Int) = (n' : Int) := by omega
    have HQF := Lib.hid hq
    clear hq
    go_enter Tryz.func11, Tryz.ntmps11
    go_wp2
    go_ret
    exact ⟨by rw [HQF.out]; rfl, Below.refl _ _⟩
end Go.Proofs.YtklngdmpledgeaaGreat.Jo

namespace Go.Proofs.YtklngdmpledgeaaGreat.Jo
open Go.RowKit Fr Sr

/-- A slice of slices that hold these bytes. -/
def RowsA (w : World) (v : Value) (bs : List (List Int)) : Prop := ∃ A cap, v = .slice A bs.length cap ∧ (0 < bs.length → ∃ g o, A = some ⟨g, o, none⟩ ∧ g < w.heap.size ∧ ∀ (i : Nat) (b : List Int), bs[i]? = some b → ∃ u, w.cell? ⟨g, o + i, none⟩ = some u ∧ BAt w u b)
/-- A slice of records. -/
def RecA (w : World) (v : Value) (rs : List Re) : Prop := ∃ A cap, v = .slice A rs.length cap ∧ (0 < rs.length → ∃ g o, A = some ⟨g, o, none⟩ ∧ g < w.heap.size ∧ ∀ (i : Nat) (r : Re), rs[i]? = some r → ∃ u, w.cell? ⟨g, o + i * 2, none⟩ = some (.int .i64 (r.1 : Int)) ∧ w.cell? ⟨g, o + i * 2 + 1, none⟩ = some u ∧ BAt w u r.2)
theorem RowsA.below {w w' : World} {v : Value} {bs : List (List Int)} (h : RowsA w v bs) (hb : Below w.heap.size w w') : RowsA w' v bs := by
  obtain ⟨A, cap, e, h1⟩ := h
  refine ⟨A, cap, e, fun hp => ?_⟩
  obtain ⟨g, o, e2, hg, h2⟩ := h1 hp
  refine ⟨g, o, e2, Nat.lt_of_lt_of_le hg hb.size, fun i b hi => ?_⟩
  obtain ⟨u, h3, h4⟩ := h2 i b hi
  exact ⟨u, (hb.cell (p := ⟨g, o + i, none⟩) hg).trans h3, h4.kept hb⟩
theorem RecA.below {w w' : World} {v : Value} {rs : List Re} (h : RecA w v rs) (hb : Below w.heap.size w w') : RecA w' v rs := by
  obtain ⟨A, cap, e, h1⟩ := h
  refine ⟨A, cap, e, fun hp => ?_⟩
  obtain ⟨g, o, e2, hg, h2⟩ := h1 hp
  refine ⟨g, o, e2, Nat.lt_of_lt_of_le hg hb.size, fun i r hi => ?_⟩
  obtain ⟨u, h3, h4, h5⟩ := h2 i r hi
  exact ⟨u, (hb.cell (p := ⟨g, o + i * 2, none⟩) hg).trans h3, (hb.cell (p := ⟨g, o + i * 2 + 1, none⟩) hg).trans h4, h5.kept hb⟩
theorem RowsB.toA {w : World} {base : Nat} {T : Nat → Prop} {v : Value} {bs : List (List Int)} (h : RowsB w base T v bs) : RowsA w v bs := by
  obtain ⟨us, h1, h2⟩ := h
  rcases h1.2 with ⟨e, h0⟩ | ⟨g, cap, cur, e, hg, hh, _⟩
  · exact ⟨none, 0, by rw [e, h0], fun hp => by omega⟩
  · refine ⟨_, cap, e, fun hp => ⟨g, 0, rfl, (Array.getElem?_eq_some_iff.1 hh).1, fun i b hi => ?_⟩⟩
    have hl : us.length = bs.length := by have := h1.1; simpa using this
    have hi2 : i < us.length := by rw [hl]; exact (List.getElem?_eq_some_iff.1 hi).1
    have hu : us[i]? = some us[i] := List.getElem?_eq_getElem hi2
    refine ⟨us[i], ?_, (h2 i _ b hu hi).1⟩
    have h3 := h1.cells (g := g) (by rw [e]; rfl) i _ hu
    rwa [show (⟨g, 0, none⟩ : Addr).add i = ⟨g, 0 + i, none⟩ from by unfold Addr.add; split <;> simp_all] at h3
set_option maxRecDepth 100000 in
set_option maxHeartbeats 4000000 in
theorem rsame_any (w : World) (u v : Value) (bs : List (List Int)) (rs : List Re) (hu : RowsA w u bs) (hv : RecA w v rs) (hn : bs.length ≤ 1000) (hm : rs.length ≤ 1000) (hb1 : ∀ b ∈ bs, b.length ≤ 2000000) (hb2 : ∀ r ∈ rs, r.2.length ≤ 2000000) :
    Calls Tryz.prog 27 #[u, v] w fun e w' => e = .returned (.bool (decide (bs = rs.map (·.2)))) ∧ Below w.heap.size w w' := by
  have hu0 := hu
  have hv0 := hv
  obtain ⟨A, cap, rfl, _⟩ := hu
  obtain ⟨A', cap', rfl, _⟩ := hv
  obtain ⟨n, hn2⟩ : ∃ n, n = bs.length := ⟨_, rfl⟩
  obtain ⟨n', hn3⟩ : ∃ n', n' = rs.length := ⟨_, rfl⟩
  obtain ⟨q, hq⟩ : ∃ q, q = decide (bs = rs.map (·.2)) := ⟨_, rfl⟩
  rw [← hn2] at hn hu0 ⊢
  rw [← hn3] at hm hv0 ⊢
  rw [← hq]
  have HU := Lib.hid hu0
  have HV := Lib.hid hv0
  have HQ := Lib.hid hq
  have HL := Lib.hid (And.intro hn2 hn3)
  have HB1 := Lib.hid hb1
  have HB2 := Lib.hid hb2
  have e0 : (0 : Int) ≤ (n : Int) := by omega
  clear hu0 hv0 hn2 hn3 hq hb1 hb2
  by_cases hnn : n = n'
  · subst hnn
    go_enter Tryz.func27, Tryz.ntmps27
    go_wp2
    go_loopg [5] n (fun (gh : Nat) s5 wx => ∃ i : Nat, gh = n - i ∧ i ≤ n ∧ s5 = .int .i64 (i : Int) ∧ Hid (Below w.heap.size w wx) ∧ Hid (∀ k, k < i → bs[k]? = (rs.map (·.2))[k]?))
    case atStart => exact ⟨0, rfl, Nat.zero_le _, rfl, Below.refl _ _, fun k hk => absurd hk (Nat.not_lt_zero _)⟩
    case round =>
      obtain ⟨i, rfl, hi, rfl, HB, HAll⟩ := hrel
      by_cases hlt : i < n
      · have t1 : (i : Int) < (n : Int) := by omega
        have t2 : (0 : Int) ≤ (i : Int) := by omega
        have hi1 : i < bs.length := by rw [← HL.out.1]; exact hlt
        have hi2 : i < rs.length := by rw [← HL.out.2]; exact hlt
        obtain ⟨A1, q1, eA, hc1⟩ := HU.out.below HB.out
        obtain ⟨A2, q2, eA', hc3⟩ := HV.out.below HB.out
        simp only [Value.slice.injEq] at eA eA'
        obtain ⟨rfl, _, _⟩ := eA
        obtain ⟨rfl, _, _⟩ := eA'
        obtain ⟨g, o, rfl, lg, hc1⟩ := hc1 (by omega)
        obtain ⟨g', o', rfl, lg', hc3⟩ := hc3 (by omega)
        obtain ⟨u1, c1, b1⟩ := hc1 i bs[i] (List.getElem?_eq_getElem hi1)
        obtain ⟨u2, c2, c3, b2⟩ := hc3 i rs[i] (List.getElem?_eq_getElem hi2)
        obtain ⟨p, hp⟩ : ∃ p, p = decide (bs[i] = rs[i].2) := ⟨_, rfl⟩
        have hsm : ∀ qq : InW wr, Calls Tryz.prog 11 #[u1, u2] qq.val fun e w'' => e = .returned (.bool p) ∧ ∃ q' : InW wr, w'' = q'.val := fun qq => by
          have h1 := bsame_any qq.val u1 u2 bs[i] rs[i].2 (b1.kept qq.bel) (b2.kept qq.bel) (HB1.out _ (List.getElem_mem hi1)) (HB2.out _ (List.getElem_mem hi2))
          rw [← hp] at h1
          exact calls_in h1
        have d1 : ∀ qq : InW wr, qq.val.cell? ⟨g, o + i, none⟩ = some u1 := fun qq => qq.cell c1
        have d3 : ∀ qq : InW wr, qq.val.cell? ⟨g', o' + i * 2 + 1, none⟩ = some u2 := fun qq => qq.cell c3
        have HP := Lib.hid hp
        clear c1 c2 c3 b1 b2 hc1 hc3 hp
        go_upto_region 6 with fail
        refine wp_region_below (W := wr) (by kernel_rfl) (by kernel_rfl) (Below.refl _ _) ?_
        repeat (go_big_quiet_step ((go_at_call 11; with_reducible exact hsm _)))
        refine wpQuiet_nil ?_
        rintro _ ⟨qq, rfl⟩
        obtain ⟨w9, hb9⟩ := qq
        try dsimp only
        have HB9 := Lib.hid (HB.out.trans (hb9.mono HB.out.size))
        clear d1 d3 hsm hb9
        cases p
        · have hq : q = false := by
            rw [HQ.out]
            refine decide_eq_false fun e => ?_
            have h5 : ¬ bs[i] = rs[i].2 := of_decide_eq_false HP.out.symm
            refine h5 ?_
            have h6 : bs[i]? = (rs.map (·.2))[i]? := by rw [← e]
            rw [List.getElem?_map, List.getElem?_eq_getElem hi1, List.getElem?_eq_getElem hi2] at h6
            exact Option.some.inj h6
          have HQF := Lib.hid hq
          clear hq
          go_wp2
          go_ret
          exact ⟨by rw [HQF.out]; rfl, HB9.out⟩
        · go_wp2
          go_roundg (n - (i + 1))
          case measure => omega
          case rel =>
            refine ⟨i + 1, rfl, hlt, by go_num, HB9.out, fun k hk => ?_⟩
            by_cases hki : k = i
            · rw [hki, List.getElem?_map, List.getElem?_eq_getElem hi1, List.getElem?_eq_getElem hi2]
              have h5 : bs[i] = rs[i].2 := of_decide_eq_true HP.out.symm
              rw [h5]; rfl
            · exact HAll.out k (by omega)
      · have hil : i = n := by omega
        subst hil
        have t1 : decide ((i : Int) < (i : Int)) = false := by simp
        have hq : q = true := by
          rw [HQ.out]
          refine decide_eq_true (List.ext_getElem? fun k => ?_)
          by_cases hk : k < i
          · exact HAll.out k hk
          · rw [List.getElem?_eq_none (by rw [← HL.out.1]; omega), List.getElem?_eq_none (by rw [List.length_map, ← HL.out.2]; omega)]
        have HQT := Lib.hid hq
        clear hq
        go_wp2
        go_ret
        exact ⟨by rw [HQT.out]; rfl, HB.out⟩
  · have hq : q = false := by
      rw [HQ.out]
      refine decide_eq_false fun e => hnn ?_
      rw [HL.out.1, HL.out.2, e, List.length_map]
    have hne : ¬ (n : Int) = (n' : Int) := by omega
    have HQF := Lib.hid hq
    clear hq
    go_enter Tryz.func27, Tryz.ntmps27
    go_wp2
    go_ret
    exact ⟨by rw [HQF.out]; rfl, Below.refl _ _⟩
end Go.Proofs.YtklngdmpledgeaaGreat.Jo
