/-
  The contracts of Spare and of Get. Conditions: at most ninety-nine records of at most sixty bytes.
-/
import Derived.Test.YtjijgoflbjbnfaaGreatVM31
import Derived.Test.YtjijgoflbjbnfaaGreatVM28
import Derived.Test.YtjijgoflbjbnfaaGreatVM12
import Derived.Test.YtjijgoflbjbnfaaGreatVM24
namespace Go.Proofs.YtjijgoflbjbnfaaGreat.Vt
open Go.RowKit Fr Sr Jo Sp
section
variable {W : World} {Z : Nat → Prop} {p vb lg : Nat} {im : Bool × Nat} {s : S} {R : Int} {ls : List (List Int)} {sd : Bool}
set_option maxRecDepth 100000 in
theorem vv_spare (h : VV W Z p vb s R ls sd lg im) : Calls Tryz.prog 11 #[.pointer (some ⟨vb, 0, none⟩)] W fun e W' => e = .returned (.int .i64 (R - s.used)) ∧ Below W.heap.size W W' := by
  obtain ⟨mb, L, j, t, jn, nx, sv, xs, rs, A, m, c, pk, hv, hi, hf, hR, _⟩ := h
  obtain ⟨⟨c0, c1, c2, c3, c4⟩, _⟩ := five hv.blk
  obtain ⟨W1, hW1⟩ : ∃ W1, W1 = W.alloc (.cells #[.pointer (some ⟨p, 0, none⟩), .slice A m c] 63) := ⟨_, rfl⟩
  have hal : Below W.heap.size W W1 := by rw [hW1]; exact alloc_below _ _
  have c9 : W1.cell? ⟨W.heap.size, 0, none⟩ = some (.pointer (some ⟨p, 0, none⟩)) := by rw [hW1]; exact (block_cell2 (block_new W (.cells #[.pointer (some ⟨p, 0, none⟩), .slice A m c] 63))).1.1
  have hst := hv.js.st.below hal
  have HRM : ∀ V : InW W1, Calls Tryz.prog 32 #[.pointer (some ⟨p, 0, none⟩)] V.val fun e w'' => e = .returned (.int .i64 R) ∧ ∃ q : InW W1, w'' = q.val := fun V => calls_in ((room_own V.val p s mb (hst.below V.bel).blk).mono fun e w' ⟨h1, h2⟩ => ⟨by rw [h1, hR], by rw [← h2]; exact Below.refl _ _⟩)
  have HUS : ∀ V : InW W1, Calls Tryz.prog 21 #[.pointer (some ⟨p, 0, none⟩)] V.val fun e w'' => e = .returned (.int .i64 s.used) ∧ ∃ q : InW W1, w'' = q.val := fun V => calls_in ((used_own V.val p s mb (hst.below V.bel).blk).mono fun e w' ⟨h1, h2⟩ => ⟨h1, by rw [← h2]; exact Below.refl _ _⟩)
  have D9 : ∀ V : InW W1, V.val.cell? ⟨W.heap.size, 0, none⟩ = some (.pointer (some ⟨p, 0, none⟩)) := fun V => V.cell c9
  have HAL := Lib.hid hal
  have HW1 := Lib.hid hW1
  clear hst hal c9 hW1
  have hb := hv.js.st.used
  have hb2 := hv.js.st.room
  obtain ⟨q, hq⟩ : ∃ q, q = R - s.used := ⟨_, rfl⟩
  have hq2 : IntKind.i64.wrap (R - s.used) = q := by rw [IntKind.wrap_i64]; omega
  rw [← hq]
  clear hv hi hf hb hb2 hq
  go_enter Tryz.func11, Tryz.ntmps11
  go_upto_region 2 with (go_at_call 31; (with_reducible refine (vorNone_some _ _).mono ?_); rintro e w' ⟨rfl, rfl⟩)
  rw [← HW1.out]
  refine wp_region_below (W := W1) (by kernel_rfl) (by kernel_rfl) (Below.refl _ _) ?_
  repeat (go_big_quiet_step ((first | (go_at_call 32; with_reducible exact HRM _) | (go_at_call 21; with_reducible exact HUS _))))
  refine wpQuiet_nil ?_
  rintro _ ⟨qq, rfl⟩
  obtain ⟨w8, hb8⟩ := qq
  try dsimp only
  have HB := Lib.hid (HAL.out.trans (hb8.mono HAL.out.size))
  clear hb8 D9 HRM HUS
  go_wp2
  go_ret
  exact ⟨rfl, HB.out⟩
set_option maxRecDepth 100000 in
theorem jget_none {w : World} {p j t nx : Nat} {s : S} {mb : Option Nat} {L : List Fi} {jn : Bool} {sv : Value} {xs : List Xr} {rs : List Re} (h : JSt w p s mb L j t jn nx sv xs rs) (k : Int) (hk : Tb.hasB xs k = false) : Calls Tryz.prog 39 #[.pointer (some ⟨j, 0, none⟩), .int .i64 k] w fun e w' => e = .returned (.tuple #[.slice none 0 0, .int .i64 13]) ∧ Below w.heap.size w w' := by
  obtain ⟨⟨c0, c1, c2, c3⟩, _⟩ := four h.jr.blk
  have hg := Tb.Ib.get_any w (some ⟨t, 0, none⟩) xs k h.jr.tab.read h.jr.asc (by have := h.jr.few; omega)
  rw [hk] at hg
  obtain ⟨x, hx⟩ : ∃ x, x = Tb.Ib.getL xs k := ⟨_, rfl⟩
  rw [← hx] at hg
  obtain ⟨xA, xn, xc⟩ := x
  have hg : Calls Tryz.prog 65 #[.pointer (some ⟨t, 0, none⟩), .int .i64 k] w fun e w' => e = .returned (.tuple #[.slice xA xn xc, .bool false]) ∧ Below w.heap.size w w' := hg
  have HG := Lib.hid hg
  clear h hg hk hx
  go_enter Tryz.func39, Tryz.ntmps39
  go_wp2_with (first
    | (go_at_call 65; (with_reducible refine HG.out.mono ?_); rintro e w2 ⟨rfl, hb⟩; have HB := Lib.hid hb; clear hb)
    | (go_at_call 64; (with_reducible refine (orNone_some _ _).mono ?_); rintro e w' ⟨rfl, rfl⟩))
  go_ret2
  exact ⟨rfl, HB.out⟩
set_option maxRecDepth 100000 in
theorem jget_some {w : World} {p j t nx : Nat} {s : S} {mb : Option Nat} {L : List Fi} {jn : Bool} {sv : Value} {xs : List Xr} {rs : List Re} (h : JSt w p s mb L j t jn nx sv xs rs) (k : Int) {q : Re} (hk : Tb.hasB xs k = true) (hq : rs[Tb.pl xs k]? = some q) (hl : q.2.length ≤ 2000000) : Calls Tryz.prog 39 #[.pointer (some ⟨j, 0, none⟩), .int .i64 k] w fun e w' => ∃ A n c, e = .returned (.tuple #[.slice A n c, .int .i64 0]) ∧ BAt w' (.slice A n c) q.2 ∧ Below w.heap.size w w' := by
  obtain ⟨⟨c0, c1, c2, c3⟩, _⟩ := four h.jr.blk
  have hg := Tb.Ib.get_any w (some ⟨t, 0, none⟩) xs k h.jr.tab.read h.jr.asc (by have := h.jr.few; omega)
  have hgl := Tb.Ib.getL_has xs k hk
  obtain ⟨hkq, hat, _⟩ := h.jr.vals.2 _ _ _ hgl hq
  clear hkq
  rw [hk] at hg
  obtain ⟨x, hx⟩ : ∃ x, x = Tb.Ib.getL xs k := ⟨_, rfl⟩
  rw [← hx] at hg
  have hat : BAt w (bval x) q.2 := by rw [hx]; exact hat
  obtain ⟨xA, xn, xc⟩ := x
  have hxn := hat.len.1
  have hg : Calls Tryz.prog 65 #[.pointer (some ⟨t, 0, none⟩), .int .i64 k] w fun e w' => e = .returned (.tuple #[.slice xA xn xc, .bool true]) ∧ Below w.heap.size w w' := hg
  have HG := Lib.hid hg
  have HC : Hid (∀ V, Below w.heap.size w V → Calls Tryz.prog 38 #[.slice xA xn xc] V fun e w' => ∃ A' c', e = .returned (.slice A' xn c') ∧ BAt w' (.slice A' xn c') q.2 ∧ Below V.heap.size V w') := fun V hV => (clone_own V xA xn xc q.2 (hat.kept hV) (by have : xn = q.2.length := hxn.symm; omega)).mono fun e w' ⟨A', c', h1, h2, h3⟩ => ⟨A', c', h1, by
    have h4 := BAt.of_own h2
    exact h4, h3⟩
  clear h hg hk hx hat hxn hgl hq
  go_enter Tryz.func39, Tryz.ntmps39
  go_wp2_with (first
    | (go_at_call 38; (with_reducible refine (HC.out w2 HB.out).mono ?_); rintro e w3 ⟨A', c', rfl, h2, h3⟩; have H2 := Lib.hid h2; have H3 := Lib.hid h3; clear h2 h3)
    | (go_at_call 65; (with_reducible refine HG.out.mono ?_); rintro e w2 ⟨rfl, hb⟩; have HB := Lib.hid hb; clear hb)
    | (go_at_call 64; (with_reducible refine (orNone_some _ _).mono ?_); rintro e w' ⟨rfl, rfl⟩))
  go_ret2
  exact ⟨A', _, c', rfl, H2.out, HB.out.trans (H3.out.mono HB.out.size)⟩
theorem sq_at : ∀ (rs : List Re) (a m : Nat) (r : Re), Sq a rs → rs[m]? = some r → r.1 = a + m
  | [], _, _, _, _, h => by simp at h
  | q :: rs, a, 0, r, hs, h => by
    simp at h
    rw [← h, hs.1]; rfl
  | q :: rs, a, m + 1, r, hs, h => by
    have := sq_at rs (a + 1) m r hs.2 (by simpa using h)
    omega
theorem has_sq {w : World} {p j t nx a : Nat} {s : S} {mb : Option Nat} {L : List Fi} {jn : Bool} {sv : Value} {xs : List Xr} {rs : List Re} (h : JSt w p s mb L j t jn nx sv xs rs) (hs : Sq a rs) (hn : a + rs.length = nx) :
    (∀ i : Nat, a ≤ i → i < nx → Tb.hasB xs (i : Int) = true ∧ Tb.pl xs (i : Int) = i - a) ∧ (∀ k : Int, k < 0 ∨ (nx : Int) ≤ k → Tb.hasB xs k = false) := by
  have hpl := fun k => pl_vals h.jr.vals k
  have hx : ∀ (m : Nat) (r : Re), rs[m]? = some r → ∃ x : Xr, xs[m]? = some x ∧ x.1 = (r.1 : Int) := fun m r hr => by
    have hm : m < xs.length := by rw [h.jr.vals.1]; exact (List.getElem?_eq_some_iff.1 hr).1
    exact ⟨xs[m], List.getElem?_eq_getElem hm, (h.jr.vals.2 m _ r (List.getElem?_eq_getElem hm) hr).1⟩
  refine ⟨fun i h1 h2 => ?_, fun k hk => ?_⟩
  · have h3 : Tb.pl xs (i : Int) = i - a := by rw [hpl, sq_key rs a i hs]; omega
    refine ⟨?_, h3⟩
    obtain ⟨r, hr⟩ : ∃ r, rs[i - a]? = some r := ⟨_, List.getElem?_eq_getElem (by omega)⟩
    obtain ⟨x, hx1, hx2⟩ := hx _ r hr
    have h4 := sq_at rs a _ r hs hr
    unfold Tb.hasB
    rw [h3, hx1]
    exact decide_eq_true (by show x.1 = (i : Int); rw [hx2, h4]; omega)
  · unfold Tb.hasB
    cases hq : xs[Tb.pl xs k]? with
    | none => rfl
    | some x =>
      have h5 := h.jr.lt x (List.mem_of_getElem? hq)
      have hm : Tb.pl xs k < rs.length := by rw [← h.jr.vals.1]; exact (List.getElem?_eq_some_iff.1 hq).1
      have h6 := (h.jr.vals.2 _ x _ hq (List.getElem?_eq_getElem hm)).1
      exact decide_eq_false (by show ¬ x.1 = k; omega)
set_option maxRecDepth 100000 in
set_option maxHeartbeats 2000000 in
theorem vv_getno (h : VV W Z p vb s R ls sd lg im) (k : Int) (hk : k < 0 ∨ (ls.length : Int) ≤ k) : Calls Tryz.prog 17 #[.pointer (some ⟨vb, 0, none⟩), .int .i64 k] W fun e W' => e = .returned (.tuple #[.slice none 0 0, .int .i64 13]) ∧ Below W.heap.size W W' := by
  obtain ⟨mb, L, j, t, jn, nx, sv, xs, rs, A, m, c, pk, hv, hi, _⟩ := h
  obtain ⟨⟨c0, c1, c2, c3, c4⟩, _⟩ := five hv.blk
  obtain ⟨a, hsq, hn, _⟩ := hi.sq
  have hlen := hi.len
  have hle := hi.le
  have HJ := Lib.hid (jget_none hv.js k ((has_sq hv.js hsq hn).2 k (by omega)))
  have hm : m ≤ nx := by rw [rowsT_len hv.row]; exact hle
  have hc : k < 0 ∨ (0 ≤ k ∧ ¬ k < (m : Int)) := by omega
  clear hv hi hsq hn hlen hle hk hm
  rcases hc with t1 | ⟨t1, t2⟩
  · have t2 : ¬ 0 ≤ k := by omega
    go_enter Tryz.func17, Tryz.ntmps17
    go_wp2_with (first
      | (go_at_call 39; (with_reducible refine HJ.out.mono ?_); rintro e w2 ⟨rfl, hb⟩; have HB := Lib.hid hb; clear hb)
      | (go_at_call 31; (with_reducible refine (vorNone_some _ _).mono ?_); rintro e w' ⟨rfl, rfl⟩))
    go_ret2
    exact ⟨rfl, HB.out⟩
  · go_enter Tryz.func17, Tryz.ntmps17
    go_wp2_with (first
      | (go_at_call 39; (with_reducible refine HJ.out.mono ?_); rintro e w2 ⟨rfl, hb⟩; have HB := Lib.hid hb; clear hb)
      | (go_at_call 31; (with_reducible refine (vorNone_some _ _).mono ?_); rintro e w' ⟨rfl, rfl⟩))
    go_ret2
    exact ⟨rfl, HB.out⟩
set_option maxRecDepth 100000 in
set_option maxHeartbeats 2000000 in
theorem vv_getyes (h : VV W Z p vb s R ls sd lg im) (i : Nat) {l : List Int} (hl : ls[i]? = some l) : Calls Tryz.prog 17 #[.pointer (some ⟨vb, 0, none⟩), .int .i64 (i : Int)] W fun e W' => ∃ A n c, e = .returned (.tuple #[.slice A n c, .int .i64 0]) ∧ BAt W' (.slice A n c) l ∧ Below W.heap.size W W' := by
  obtain ⟨mb, L, j, t, jn, nx, sv, xs, rs, A, m, c, pk, hv, hi, _⟩ := h
  obtain ⟨⟨c0, c1, c2, c3, c4⟩, _⟩ := five hv.blk
  obtain ⟨a, hsq, hn, ha, hls⟩ := hi.sq
  have hlen := hi.len
  have hle := hi.le
  have hil : i < ls.length := (List.getElem?_eq_some_iff.1 hl).1
  have hm := rowsT_len hv.row
  have t0 : (0 : Int) ≤ (i : Int) := by omega
  by_cases hip : i < m
  · have hpk : pk[i]? = some l := by
      rw [hls, List.getElem?_append_left (by omega)] at hl
      exact hl
    obtain ⟨g, o, Au, nu, qu, x2, hA, hx2, hnu, cu, hat⟩ := rows_at hv.row.toA hip
    have hxx : x2 = l := by rw [hpk] at hx2; exact (Option.some.inj hx2).symm
    subst hxx
    subst hA
    have hnl : nu ≤ 2000000 := by rw [hnu]; have := (hi.bp _ (List.mem_of_getElem? hpk)).2; omega
    have HCL : Hid (Calls Tryz.prog 38 #[.slice Au nu qu] W fun e w' => ∃ A' c', e = .returned (.slice A' nu c') ∧ BAt w' (.slice A' nu c') x2 ∧ Below W.heap.size W w') := (clone_own W Au nu qu x2 hat hnl).mono fun e w' ⟨A', c', h1, h2, h3⟩ => ⟨A', c', h1, BAt.of_own h2, h3⟩
    have t1 : (i : Int) < (m : Int) := by omega
    clear hv hi hsq hn ha hls hlen hle hil hm hip hpk hx2 hnu hat hnl hl
    go_enter Tryz.func17, Tryz.ntmps17
    go_wp2_with (first
      | (go_at_call 38; (with_reducible refine HCL.out.mono ?_); rintro e w3 ⟨A', c', rfl, h2, h3⟩; have H2 := Lib.hid h2; have H3 := Lib.hid h3; clear h2 h3)
      | (go_at_call 31; (with_reducible refine (vorNone_some _ _).mono ?_); rintro e w' ⟨rfl, rfl⟩))
    go_ret2
    exact ⟨A', _, c', rfl, H2.out, H3.out⟩
  · obtain ⟨h1, h2⟩ := (has_sq hv.js hsq hn).1 i (by omega) (by omega)
    obtain ⟨q, hq⟩ : ∃ q, rs[i - a]? = some q := ⟨_, List.getElem?_eq_getElem (by omega)⟩
    have hql : q.2 = l := by
      rw [hls, List.getElem?_append_right (by omega), List.getElem?_map, List.getElem?_drop, show pk.length - a + (i - pk.length) = i - a by omega, hq] at hl
      exact Option.some.inj hl
    have hj := jget_some hv.js (i : Int) h1 (by rw [h2]; exact hq) (by have := (hi.br q (List.mem_of_getElem? hq)).2; omega)
    rw [hql] at hj
    have HJ := Lib.hid hj
    have t1 : ¬ (i : Int) < (m : Int) := by omega
    clear hv hi hsq hn ha hls hlen hle hil hm hip h1 h2 hq hql hj hl
    go_enter Tryz.func17, Tryz.ntmps17
    go_wp2_with (first
      | (go_at_call 39; (with_reducible refine HJ.out.mono ?_); rintro e w3 ⟨A', n', c', rfl, h2, h3⟩; have H2 := Lib.hid h2; have H3 := Lib.hid h3; clear h2 h3)
      | (go_at_call 31; (with_reducible refine (vorNone_some _ _).mono ?_); rintro e w' ⟨rfl, rfl⟩))
    go_ret2
    exact ⟨A', n', c', rfl, H2.out, H3.out⟩
end
end Go.Proofs.YtjijgoflbjbnfaaGreat.Vt

namespace Go.Proofs.YtjijgoflbjbnfaaGreat.Sp
open Go.RowKit Fr

set_option maxRecDepth 100000 in
set_option maxHeartbeats 2000000 in
theorem bsame_any (w : World) (u v : Value) (l m : List Int) (hu : BAt w u l) (hv : BAt w v m) (hn : l.length ≤ 2000000) (hm : m.length ≤ 2000000) :
    Calls Tryz.prog 18 #[u, v] w fun e w' => e = .returned (.bool (decide (l = m))) ∧ Below w.heap.size w w' := by
  obtain ⟨A, cap, rfl, k1, h1⟩ := hu
  obtain ⟨A', cap', rfl, k2, h2⟩ := hv
  obtain ⟨n, hn2⟩ : ∃ n, n = l.length := ⟨_, rfl⟩
  obtain ⟨n', hn3⟩ : ∃ n', n' = m.length := ⟨_, rfl⟩
  obtain ⟨q, hq⟩ : ∃ q, q = decide (l = m) := ⟨_, rfl⟩
  rw [← hn2] at h1 hn k1 ⊢
  rw [← hn3] at h2 hm k2 ⊢
  rw [← hq]
  have H1 := Lib.hid h1
  have H2 := Lib.hid h2
  have HQ := Lib.hid hq
  have HL := Lib.hid (And.intro hn2 hn3)
  have e0 : (0 : Int) ≤ (n : Int) := by omega
  clear h1 h2 hn2 hn3 hq
  by_cases hnn : n = n'
  · subst hnn
    go_enter Tryz.func18, Tryz.ntmps18
    go_wp2
    go_loopg [5] n (fun (gh : Nat) s5 wx => ∃ i : Nat, gh = n - i ∧ i ≤ n ∧ s5 = .int .i64 (i : Int) ∧ Below w.heap.size w wx ∧ Hid (∀ k, k < i → l.getD k 0 = m.getD k 0))
    case atStart => exact ⟨0, rfl, Nat.zero_le _, rfl, Below.refl _ _, fun k hk => absurd hk (Nat.not_lt_zero _)⟩
    case round =>
      obtain ⟨i, rfl, hi, rfl, hbel, HAll⟩ := hrel
      by_cases hlt : i < n
      · have t1 : (i : Int) < (n : Int) := by omega
        have t2 : (0 : Int) ≤ (i : Int) := by omega
        obtain ⟨g, o, rfl, lg, hc1⟩ := H1.out (by omega)
        obtain ⟨g', o', rfl, lg', hc3⟩ := H2.out (by omega)
        obtain ⟨r, hr⟩ : ∃ r, r = l.getD i 0 := ⟨_, rfl⟩
        obtain ⟨r', hr'⟩ : ∃ r', r' = m.getD i 0 := ⟨_, rfl⟩
        have c1 : wr.cell? ⟨g, o + i, none⟩ = some (.int .u8 r) := by rw [hr]; exact (hbel.cell (p := ⟨g, o + i, none⟩) lg).trans (hc1 i hlt)
        have c3 : wr.cell? ⟨g', o' + i, none⟩ = some (.int .u8 r') := by rw [hr']; exact (hbel.cell (p := ⟨g', o' + i, none⟩) lg').trans (hc3 i hlt)
        have HB := Lib.hid hbel
        have HR := Lib.hid (And.intro hr hr')
        clear hbel hr hr' hc1 hc3
        by_cases hrr : r = r'
        · have HRR := Lib.hid hrr
          subst hrr
          go_wp2_with fail
          go_quiet (fail)
          go_wp2
          go_roundg (n - (i + 1))
          case measure => omega
          case rel =>
            refine ⟨i + 1, rfl, hlt, by go_num, ⟨HB.out.os, HB.out.tape, HB.out.output, HB.out.size, HB.out.block⟩, fun k hk => ?_⟩
            by_cases hki : k = i
            · rw [hki, ← HR.out.1, ← HR.out.2]
            · exact HAll.out k (by omega)
        · have hq : q = false := by
            rw [HQ.out]
            refine decide_eq_false fun e => hrr ?_
            rw [HR.out.1, HR.out.2, e]
          have HQF := Lib.hid hq
          have hrb1 : (r == r') = false := by simpa using hrr
          have hrb2 : (r != r') = true := by simpa using hrr
          clear hq
          go_wp2_with fail
          go_quiet (fail)
          go_wp2
          go_ret
          exact ⟨by rw [HQF.out]; rfl, ⟨HB.out.os, HB.out.tape, HB.out.output, HB.out.size, HB.out.block⟩⟩
      · have hil : i = n := by omega
        subst hil
        have t1 : decide ((i : Int) < (i : Int)) = false := by simp
        have HB := Lib.hid hbel
        have hq : q = true := by
          rw [HQ.out]
          refine decide_eq_true (List.ext_getElem (by rw [← HL.out.1, ← HL.out.2]) fun k h3 h4 => ?_)
          have h5 := HAll.out k (by rw [HL.out.1]; exact h3)
          rw [List.getD_eq_getElem?_getD, List.getD_eq_getElem?_getD, List.getElem?_eq_getElem h3, List.getElem?_eq_getElem h4] at h5
          exact h5
        have HQT := Lib.hid hq
        clear hbel hq
        go_wp2
        go_ret
        exact ⟨by rw [HQT.out]; rfl, HB.out⟩
  · have hq : q = false := by
      rw [HQ.out]
      refine decide_eq_false fun e => hnn ?_
      rw [HL.out.1, HL.out.2, e]
    have hne : ¬ (n : Int) = (n' : Int) := by omega
    have HQF := Lib.hid hq
    clear hq
    go_enter Tryz.func18, Tryz.ntmps18
    go_wp2
    go_ret
    exact ⟨by rw [HQF.out]; rfl, Below.refl _ _⟩
set_option maxRecDepth 100000 in
set_option maxHeartbeats 4000000 in
theorem rsame_any (w : World) (u v : Value) (bs rs : List (List Int)) (hu : RowsA w u bs) (hv : RowsA w v rs) (hn : bs.length ≤ 20000) (hm : rs.length ≤ 20000) (hb1 : ∀ b ∈ bs, b.length ≤ 2000000) (hb2 : ∀ r ∈ rs, r.length ≤ 2000000) :
    Calls Tryz.prog 15 #[u, v] w fun e w' => e = .returned (.bool (decide (bs = rs))) ∧ Below w.heap.size w w' := by
  have hu0 := hu
  have hv0 := hv
  obtain ⟨A, cap, rfl, _⟩ := hu
  obtain ⟨A', cap', rfl, _⟩ := hv
  obtain ⟨n, hn2⟩ : ∃ n, n = bs.length := ⟨_, rfl⟩
  obtain ⟨n', hn3⟩ : ∃ n', n' = rs.length := ⟨_, rfl⟩
  obtain ⟨q, hq⟩ : ∃ q, q = decide (bs = rs) := ⟨_, rfl⟩
  rw [← hn2] at hn hu0 ⊢
  rw [← hn3] at hm hv0 ⊢
  rw [← hq]
  have HU := Lib.hid hu0
  have HV := Lib.hid hv0
  have HQ := Lib.hid hq
  have HL := Lib.hid (And.intro hn2 hn3)
  have HB1 := Lib.hid hb1
  have HB2 := Lib.hid hb2
  have e0 : (0 : Int) ≤ (n : Int) := by omega
  clear hu0 hv0 hn2 hn3 hq hb1 hb2
  by_cases hnn : n = n'
  · subst hnn
    go_enter Tryz.func15, Tryz.ntmps15
    go_wp2
    go_loopg [5] n (fun (gh : Nat) s5 wx => ∃ i : Nat, gh = n - i ∧ i ≤ n ∧ s5 = .int .i64 (i : Int) ∧ Hid (Below w.heap.size w wx) ∧ Hid (∀ k, k < i → bs[k]? = rs[k]?))
    case atStart => exact ⟨0, rfl, Nat.zero_le _, rfl, Below.refl _ _, fun k hk => absurd hk (Nat.not_lt_zero _)⟩
    case round =>
      obtain ⟨i, rfl, hi, rfl, HB, HAll⟩ := hrel
      by_cases hlt : i < n
      · have t1 : (i : Int) < (n : Int) := by omega
        have t2 : (0 : Int) ≤ (i : Int) := by omega
        have hi1 : i < bs.length := by rw [← HL.out.1]; exact hlt
        have hi2 : i < rs.length := by rw [← HL.out.2]; exact hlt
        obtain ⟨A1, q1, eA, hc1⟩ := HU.out.below HB.out
        obtain ⟨A2, q2, eA', hc3⟩ := HV.out.below HB.out
        simp only [Value.slice.injEq] at eA eA'
        obtain ⟨rfl, _, _⟩ := eA
        obtain ⟨rfl, _, _⟩ := eA'
        obtain ⟨g, o, rfl, lg, hc1⟩ := hc1 (by omega)
        obtain ⟨g', o', rfl, lg', hc3⟩ := hc3 (by omega)
        obtain ⟨u1, c1, b1⟩ := hc1 i bs[i] (List.getElem?_eq_getElem hi1)
        obtain ⟨u2, c3, b2⟩ := hc3 i rs[i] (List.getElem?_eq_getElem hi2)
        obtain ⟨p, hp⟩ : ∃ p, p = decide (bs[i] = rs[i]) := ⟨_, rfl⟩
        have hsm : ∀ qq : InW wr, Calls Tryz.prog 18 #[u1, u2] qq.val fun e w'' => e = .returned (.bool p) ∧ ∃ q' : InW wr, w'' = q'.val := fun qq => by
          have h1 := bsame_any qq.val u1 u2 bs[i] rs[i] (b1.kept qq.bel) (b2.kept qq.bel) (HB1.out _ (List.getElem_mem hi1)) (HB2.out _ (List.getElem_mem hi2))
          rw [← hp] at h1
          exact calls_in h1
        have d1 : ∀ qq : InW wr, qq.val.cell? ⟨g, o + i, none⟩ = some u1 := fun qq => qq.cell c1
        have d3 : ∀ qq : InW wr, qq.val.cell? ⟨g', o' + i, none⟩ = some u2 := fun qq => qq.cell c3
        have HP := Lib.hid hp
        clear c1 c3 b1 b2 hc1 hc3 hp
        go_upto_region 6 with fail
        refine wp_region_below (W := wr) (by kernel_rfl) (by kernel_rfl) (Below.refl _ _) ?_
        repeat (go_big_quiet_step ((go_at_call 18; with_reducible exact hsm _)))
        refine wpQuiet_nil ?_
        rintro _ ⟨qq, rfl⟩
        obtain ⟨w9, hb9⟩ := qq
        try dsimp only
        have HB9 := Lib.hid (HB.out.trans (hb9.mono HB.out.size))
        clear d1 d3 hsm hb9
        cases p
        · have hq : q = false := by
            rw [HQ.out]
            refine decide_eq_false fun e => ?_
            have h5 : ¬ bs[i] = rs[i] := of_decide_eq_false HP.out.symm
            refine h5 ?_
            have h6 : bs[i]? = rs[i]? := by rw [← e]
            rw [List.getElem?_eq_getElem hi1, List.getElem?_eq_getElem hi2] at h6
            exact Option.some.inj h6
          have HQF := Lib.hid hq
          clear hq
          go_wp2
          go_ret
          exact ⟨by rw [HQF.out]; rfl, HB9.out⟩
        · go_wp2
          go_roundg (n - (i + 1))
          case measure => omega
          case rel =>
            refine ⟨i + 1, rfl, hlt, by go_num, HB9.out, fun k hk => ?_⟩
            by_cases hki : k = i
            · rw [hki, List.getElem?_eq_getElem hi1, List.getElem?_eq_getElem hi2]
              have h5 : bs[i] = rs[i] := of_decide_eq_true HP.out.symm
              rw [h5]
            · exact HAll.out k (by omega)
      · have hil : i = n := by omega
        subst hil
        have t1 : decide ((i : Int) < (i : Int)) = false := by simp
        have hq : q = true := by
          rw [HQ.out]
          refine decide_eq_true (List.ext_getElem? fun k => ?_)
          by_cases hk : k < i
          · exact HAll.out k hk
          · rw [List.getElem?_eq_none (by rw [← HL.out.1]; omega), List.getElem?_eq_none (by rw [← HL.out.2]; omega)]
        have HQT := Lib.hid hq
        clear hq
        go_wp2
        go_ret
        exact ⟨by rw [HQT.out]; rfl, HB.out⟩
  · have hq : q = false := by
      rw [HQ.out]
      refine decide_eq_false fun e => hnn ?_
      rw [HL.out.1, HL.out.2, e]
    have hne : ¬ (n : Int) = (n' : Int) := by omega
    have HQF := Lib.hid hq
    clear hq
    go_enter Tryz.func15, Tryz.ntmps15
    go_wp2
    go_ret
    exact ⟨by rw [HQF.out]; rfl, Below.refl _ _⟩
end Go.Proofs.YtjijgoflbjbnfaaGreat.Sp

namespace Go.Proofs.YtjijgoflbjbnfaaGreat.Vt
open Go.RowKit Fr Sr Jo

/-- A law's list of slices of its input. -/
def HV (w W : World) (v : Value) (hs : List (List Int)) : Prop := (∃ us : List Value, W.ownsRow w.heap.size 32 1 v hs.length us ∧ ∀ (i : Nat) (u : Value) (l : List Int), us[i]? = some u → hs[i]? = some l → BAt w u l ∧ isS u) ∧ AllS W v
theorem HV.nil (w W : World) : HV w W (.slice none 0 0) [] := ⟨⟨[], World.ownsRow_nil _ _ _ _, fun i u l hu => by simp at hu⟩, fun g hg => by cases hg⟩
theorem HV.lt {w W : World} {v : Value} {hs : List (List Int)} (h : HV w W v hs) {k : Nat} (hk : v.ownBlock = some k) : w.heap.size ≤ k ∧ k < W.heap.size := by
  obtain ⟨⟨us, h1, _⟩, _⟩ := h
  exact h1.lt k hk
theorem HV.kept {w W W' : World} {T : Nat → Prop} {v : Value} {hs : List (List Int)} (h : HV w W v hs) (ho : Off T W W') (hT : ∀ k, v.ownBlock = some k → ¬ T k) : HV w W' v hs := by
  have hk : ∀ g, v.ownBlock = some g → W'.heap[g]? = W.heap[g]? := fun g hg => ho.2 g (h.lt hg).2 (hT g hg)
  obtain ⟨⟨us, h1, h2⟩, h3⟩ := h
  exact ⟨⟨us, Oc.ownsRow_kept h1 hk, h2⟩, allS_kept h3 hk⟩
theorem HV.below {w W W' : World} {v : Value} {hs : List (List Int)} (h : HV w W v hs) (hb : Below W.heap.size W W') : HV w W' v hs := h.kept (Off.of_below (fun _ => False) hb) (fun _ _ e => e)
theorem HV.toA {w W : World} {v : Value} {hs : List (List Int)} (h : HV w W v hs) (hb : Below w.heap.size w W) : Sp.RowsA W v hs := by
  obtain ⟨⟨us, h1, h2⟩, _⟩ := h
  rcases h1.2 with ⟨e, h0⟩ | ⟨g, cap, cur, e, hg, hh, _⟩
  · exact ⟨none, 0, by rw [e, h0], fun hp => by omega⟩
  · refine ⟨_, cap, e, fun hp => ⟨g, 0, rfl, (Array.getElem?_eq_some_iff.1 hh).1, fun i l hi => ?_⟩⟩
    have hl : us.length = hs.length := by have := h1.1; omega
    have hi2 : i < us.length := by rw [hl]; exact (List.getElem?_eq_some_iff.1 hi).1
    have hu : us[i]? = some us[i] := List.getElem?_eq_getElem hi2
    refine ⟨us[i], ?_, ((h2 i _ l hu hi).1).kept hb⟩
    have h3 := h1.cells (g := g) (by rw [e]; rfl) i _ hu
    rwa [show (⟨g, 0, none⟩ : Addr).add i = ⟨g, 0 + i, none⟩ from by unfold Addr.add; split <;> simp_all] at h3
/-- One more. -/
theorem HV.app {w W : World} {v u : Value} {hs : List (List Int)} {l : List Int} (h : HV w W v hs) (hw : w.heap.size ≤ W.heap.size) (hu : BAt w u l) (hs1 : isS u) (hn : hs.length ≤ 1000) :
    ∃ A n c W5, (Builtin.append_ #[31, 31] 31 #[v, .slice (some ⟨W.heap.size, 0, none⟩) 1 1]).run Tryz.prog (W.alloc (.cells #[u] 32)) = .ok (.slice A n c) W5 ∧ HV w W5 (.slice A n c) (hs ++ [l]) ∧ Off (fun i => v.ownBlock = some i) W W5 ∧ (∀ i, (Value.slice A n c).ownBlock = some i → v.ownBlock = some i ∨ W.heap.size ≤ i) := by
  have hal := alloc_below W (.cells #[u] 32)
  obtain ⟨⟨us, h1, h2⟩, h3⟩ := h.below hal
  obtain ⟨A, n, c, W5, hr, ho, hg, hloc, hS⟩ := app_rowS h1 h3 (by omega) (by have := hal.size; omega) (block_new W _) hs1
  have hof : Off (fun i => v.ownBlock = some i) (W.alloc (.cells #[u] 32)) W5 := Off.of_grown hg fun i e => e
  refine ⟨A, n, c, W5, hr, ⟨⟨us ++ [u], by rw [List.length_append]; exact ho, fun i x y hx hy => ?_⟩, hS⟩, off_two (Off.of_below (fun _ => False) hal) hof (fun _ e => e.elim) (fun _ e => .inl e), fun i hi => (hloc i hi).imp id (fun h => Nat.le_trans hal.size h)⟩
  have hul : us.length = hs.length := by have := h1.1; omega
  rw [List.getElem?_append] at hx hy
  split at hx
  · rename_i hi
    rw [if_pos (by omega)] at hy
    exact h2 i x y hx hy
  · rename_i hi
    rw [if_neg (by omega)] at hy
    have e3 : i - us.length = 0 := by
      have := (List.getElem?_eq_some_iff.1 hx).1
      simp at this; omega
    rw [e3] at hx
    rw [← hul, e3] at hy
    simp at hx hy
    subst hx hy
    exact ⟨hu, hs1⟩
/-- Blocks that neither the vault nor the law's list has. -/
def XS (W : World) (Z : Nat → Prop) (v : Value) (X : List (Nat × Obj)) : Prop := ∀ q ∈ X, ¬ Z q.1 ∧ v.ownBlock ≠ some q.1 ∧ W.heap[q.1]? = some q.2
theorem xs_lt {W : World} {Z : Nat → Prop} {v : Value} {X : List (Nat × Obj)} (h : XS W Z v X) {q : Nat × Obj} (hq : q ∈ X) : q.1 < W.heap.size := (Array.getElem?_eq_some_iff.1 (h q hq).2.2).1
theorem XS.step {W W' : World} {T Z Z' : Nat → Prop} {v v' : Value} {X : List (Nat × Obj)} (h : XS W Z v X) (ho : Off T W W') (hT : ∀ q ∈ X, ¬ T q.1) (hz : ∀ k, Z' k → Z k ∨ W.heap.size ≤ k) (hv : ∀ k, v'.ownBlock = some k → v.ownBlock = some k ∨ W.heap.size ≤ k) : XS W' Z' v' X := fun q hq => by
  obtain ⟨h1, h2, h3⟩ := h q hq
  have h4 := xs_lt h hq
  exact ⟨fun e => (hz _ e).elim h1 (fun e => by omega), fun e => (hv _ e).elim h2 (fun e => by omega), (ho.2 _ h4 (hT q hq)).trans h3⟩
/-- A vault with the records ls, and beside it the law's list hs. -/
def LV (w W : World) (p vb : Nat) (v : Value) (R : Int) (ls hs : List (List Int)) (s : S) (sd : Bool) (g : Nat) (X : List (Nat × Obj)) : Prop :=
  ∃ Z lg im, VV W Z p vb s R ls sd lg im ∧ lg ≤ g ∧ (∀ k, Z k → w.heap.size ≤ k ∧ v.ownBlock ≠ some k) ∧ (HV w W v hs ∧ XS W Z v X) ∧ Below w.heap.size w W
section
variable {w W W' : World} {X : List (Nat × Obj)} {p vb g : Nat} {v : Value} {R : Int} {ls hs : List (List Int)} {s : S} {sd : Bool}
theorem LV.below (h : LV w W p vb v R ls hs s sd g X) (hb : Below W.heap.size W W') : LV w W' p vb v R ls hs s sd g X := by
  obtain ⟨Z, lg, im, h1, h2, h3, h4, h5⟩ := h
  exact ⟨Z, lg, im, h1.below hb, h2, h3, ⟨h4.1.below hb, h4.2.step (Off.of_below (fun _ => False) hb) (fun _ _ e => e) (fun _ e => .inl e) (fun _ e => .inl e)⟩, h5.trans (hb.mono h5.size)⟩
theorem LV.bel (h : LV w W p vb v R ls hs s sd g X) : Below w.heap.size w W := by
  obtain ⟨Z, lg, im, h1, h2, h3, h4, h5⟩ := h
  exact h5
theorem LV.bl (h : LV w W p vb v R ls hs s sd g X) : (∀ l ∈ ls, Small l) ∧ ls.length ≤ 99 ∧ 0 ≤ s.used ∧ s.used ≤ R ∧ s.room = R := by
  obtain ⟨Z, lg, im, h1, _⟩ := h
  exact h1.bl
theorem LV.le {g' : Nat} (h : LV w W p vb v R ls hs s sd g X) (hg : g ≤ g') : LV w W p vb v R ls hs s sd g' X := by
  obtain ⟨Z, lg, im, h1, h2, h3⟩ := h
  exact ⟨Z, lg, im, h1, Nat.le_trans h2 hg, h3⟩
theorem LV.hsA (h : LV w W p vb v R ls hs s sd g X) : Sp.RowsA W v hs := by
  obtain ⟨Z, lg, im, h1, h2, h3, h4, h5⟩ := h
  exact h4.1.toA h5
/-- A step of the vault: what it leaves of the rest. -/
theorem lv_off {Z : Nat → Prop} {ls' : List (List Int)} {s' : S} {sd' : Bool} {vb' lg' g' : Nat} {im' : Bool × Nat} {Z' : Nat → Prop} (h3 : ∀ k, Z k → w.heap.size ≤ k ∧ v.ownBlock ≠ some k) (h4 : HV w W v hs ∧ XS W Z v X) (h5 : Below w.heap.size w W) (ho : Off Z W W') (hz : ∀ k, Z' k → Z k ∨ W.heap.size ≤ k) (hv : VV W' Z' p vb' s' R ls' sd' lg' im') (hg : lg' ≤ g') : LV w W' p vb' v R ls' hs s' sd' g' X :=
  ⟨Z', lg', im', hv, hg, fun k hk => (hz k hk).elim (h3 k) (fun h => ⟨Nat.le_trans h5.size h, fun e => by have := (h4.1.lt e).2; omega⟩), ⟨h4.1.kept ho (fun k hk hz => (h3 k hz).2 hk), h4.2.step ho (fun q hq => (h4.2 q hq).1) hz (fun _ e => .inl e)⟩, h5.trans (ho.below (fun k hk => (h3 k hk).1) h5.size)⟩
theorem zn_or {Z : Nat → Prop} : ∀ k, Zn Z W W' k → Z k ∨ W.heap.size ≤ k := fun _ hk => hk.imp id (fun h => h.1)
theorem lv_add (h : LV w W p vb v R ls hs s true g X) {A1 : Option Addr} {n1 c1 : Nat} {l : List Int} (hb : BAt w (.slice A1 n1 c1) l) (hsm : Small l) (hx : ls.length < 99) :
    Calls Tryz.prog 10 #[.pointer (some ⟨vb, 0, none⟩), .slice A1 n1 c1] W fun e W' => ∃ E s', e = .returned (.int .i64 E) ∧ s'.used ≤ s.used + (9 + l.length) ∧
      ((E = 0 ∧ LV w W' p vb v R (ls ++ [l]) hs s' true (g + (9 + l.length)) X ∧ s'.a = s.a) ∨ (E = 14 ∧ s.a = true ∧ LV w W' p vb v R ls hs s' false (g + (9 + l.length)) X) ∨ (E = 7 ∧ R < s.used + (9 + l.length) ∧ s' = s ∧ LV w W' p vb v R ls hs s true g X)) := by
  obtain ⟨Z, lg, im, h1, h2, h3, h4, h5⟩ := h
  refine (vv_add h1 (hb.kept h5) hsm (fun hp a n c ha hz => by
    have h6 : a.block < w.heap.size := bk_lt hb hp a n c ha
    have := (h3 _ hz).1
    omega) hx).mono ?_
  rintro e W' ⟨ho, E, s', rfl, hu, hcs⟩
  refine ⟨E, s', rfl, hu, ?_⟩
  rcases hcs with ⟨h0, hv, ha⟩ | ⟨h0, ha, hv⟩ | ⟨h0, hr, hs', hv⟩
  · exact .inl ⟨h0, lv_off h3 h4 h5 ho zn_or hv (by omega), ha⟩
  · exact .inr (.inl ⟨h0, ha, lv_off h3 h4 h5 ho zn_or hv (by omega)⟩)
  · rw [hs'] at hv
    exact .inr (.inr ⟨h0, hr, hs', lv_off h3 h4 h5 ho zn_or hv h2⟩)
theorem lv_pack (h : LV w W p vb v R ls hs s true g X) :
    Calls Tryz.prog 12 #[.pointer (some ⟨vb, 0, none⟩)] W fun e W' => ∃ E s', e = .returned (.int .i64 E) ∧ s'.used ≤ s.used + (18 + 70 * ls.length) ∧
      ((E = 0 ∧ LV w W' p vb v R ls hs s' true g X ∧ s'.a = s.a) ∨ (E = 14 ∧ s.a = true ∧ LV w W' p vb v R ls hs s' false g X) ∨ (E = 7 ∧ R < s.used + (18 + 70 * ls.length) ∧ LV w W' p vb v R ls hs s' true g X)) := by
  obtain ⟨Z, lg, im, h1, h2, h3, h4, h5⟩ := h
  refine (vv_pack h1).mono ?_
  rintro e W' ⟨ho, E, s', rfl, hu, hcs⟩
  refine ⟨E, s', rfl, hu, ?_⟩
  rcases hcs with ⟨h0, hv, ha⟩ | ⟨h0, ha, im', hv⟩ | ⟨h0, hr, im', hv⟩
  · exact .inl ⟨h0, lv_off h3 h4 h5 ho zn_or hv h2, ha⟩
  · exact .inr (.inl ⟨h0, ha, lv_off h3 h4 h5 ho zn_or hv h2⟩)
  · exact .inr (.inr ⟨h0, hr, lv_off h3 h4 h5 ho zn_or hv h2⟩)
theorem lv_arm (h : LV w W p vb v R ls hs s sd g X) {n : Int} (hn : n ≤ 9223372036854775807) : Calls Tryz.prog 13 #[.pointer (some ⟨p, 0, none⟩), .int .i64 n] W fun e W' => e = .returned (.tuple #[]) ∧ LV w W' p vb v R ls hs (armS s n) sd g X := by
  obtain ⟨Z, lg, im, h1, h2, h3, h4, h5⟩ := h
  refine (vv_arm h1 hn).mono ?_
  rintro e W' ⟨rfl, ho, hv⟩
  exact ⟨rfl, lv_off h3 h4 h5 ho zn_or hv h2⟩
/-- The store alone, beside the law's list. -/
def LS (w W : World) (p : Nat) (v : Value) (R : Int) (ls hs : List (List Int)) (s : S) (g : Nat) (X : List (Nat × Obj)) : Prop :=
  ∃ Z lg im, SF W Z p s R ls lg im ∧ lg ≤ g ∧ (∀ k, Z k → w.heap.size ≤ k ∧ v.ownBlock ≠ some k) ∧ (HV w W v hs ∧ XS W Z v X) ∧ Below w.heap.size w W
theorem lv_rev (h : LV w W p vb v R ls hs s sd g X) : Calls Tryz.prog 14 #[.pointer (some ⟨p, 0, none⟩)] W fun e W' => e = .returned (.tuple #[]) ∧ LS w W' p v R ls hs { s with a := false, n := 0, d := false } g X := by
  obtain ⟨Z, lg, im, h1, h2, h3, h4, h5⟩ := h
  refine (vv_rev h1).mono ?_
  rintro e W' ⟨rfl, ho, hv⟩
  exact ⟨rfl, _, lg, im, hv, h2, fun k hk => (zn_or k hk).elim (h3 k) (fun h => ⟨Nat.le_trans h5.size h, fun e => by have := (h4.1.lt e).2; omega⟩), ⟨h4.1.kept ho (fun k hk hz => (h3 k hz).2 hk), h4.2.step ho (fun q hq => (h4.2 q hq).1) zn_or (fun _ e => .inl e)⟩, h5.trans (ho.below (fun k hk => (h3 k hk).1) h5.size)⟩
theorem lv_open (h : LS w W p v R ls hs s g X) (ha : s.a = false) (hd : s.d = false) (hl : R ≤ 800 ∨ g ≤ 800) : Calls Tryz.prog 9 #[.pointer (some ⟨p, 0, none⟩)] W fun e W' => ∃ vb s', e = .returned (.tuple #[.pointer (some ⟨vb, 0, none⟩), .int .i64 0]) ∧ LV w W' p vb v R ls hs s' true g X ∧ s'.a = false ∧ s'.used ≤ s.used := by
  obtain ⟨Z, lg, im, h1, h2, h3, h4, h5⟩ := h
  refine (vv_open h1 ha hd (hl.imp id (fun h => Nat.le_trans h2 h))).mono ?_
  rintro e W' ⟨ho, vb, Z', s', rfl, hv, hz, ha', hu⟩
  exact ⟨vb, s', rfl, lv_off h3 h4 h5 ho hz hv h2, ha', hu⟩
theorem lv_all (h : LV w W p vb v R ls hs s sd g X) : Calls Tryz.prog 16 #[.pointer (some ⟨vb, 0, none⟩)] W fun e W' => ∃ A n c, e = .returned (.slice A n c) ∧ RowsO W' W.heap.size (fun _ => False) (.slice A n c) ls ∧ Below W.heap.size W W' := by
  obtain ⟨Z, lg, im, h1, h2, h3, h4, h5⟩ := h
  refine (vv_all h1).mono ?_
  rintro e W' ⟨v, rfl, hr, hb⟩
  obtain ⟨A, n, c, rfl⟩ := rowsO_eq hr
  exact ⟨A, n, c, rfl, hr, hb⟩
theorem lv_app (h : LV w W p vb v R ls hs s sd g X) {u : Value} {l : List Int} (hu : BAt w u l) (hs1 : isS u) (hn : hs.length ≤ 1000) :
    ∃ A n c W5, (Builtin.append_ #[31, 31] 31 #[v, .slice (some ⟨W.heap.size, 0, none⟩) 1 1]).run Tryz.prog (W.alloc (.cells #[u] 32)) = .ok (.slice A n c) W5 ∧ LV w W5 p vb (.slice A n c) R ls (hs ++ [l]) s sd g X := by
  obtain ⟨Z, lg, im, h1, h2, h3, h4, h5⟩ := h
  obtain ⟨A, n, c, W5, hr, hv, ho, hloc⟩ := h4.1.app h5.size hu hs1 hn
  refine ⟨A, n, c, W5, hr, Z, lg, im, h1.off ho (fun k hk e => (h3 k hk).2 e) (allS_nob h4.1.2), h2, fun k hk => ⟨(h3 k hk).1, fun e => ?_⟩, ⟨hv, h4.2.step ho (fun q hq => (h4.2 q hq).2.1) (fun _ e => .inl e) hloc⟩, h5.trans (ho.below (fun k hk => (h4.1.lt hk).1) h5.size)⟩
  rcases hloc k e with h6 | h6
  · exact (h3 k hk).2 h6
  · have := h1.zl k hk; omega
/-- One more block that is let be. -/
theorem lv_lit (h : LV w W p vb v R ls hs s sd g X) (o : Obj) : LV w (W.alloc o) p vb v R ls hs s sd g ((W.heap.size, o) :: X) := by
  have hal := alloc_below W o
  obtain ⟨Z, lg, im, h1, h2, h3, h4, h5⟩ := h
  refine ⟨Z, lg, im, h1.below hal, h2, h3, ⟨h4.1.below hal, fun q hq => ?_⟩, h5.trans (hal.mono h5.size)⟩
  rcases List.mem_cons.1 hq with rfl | hq
  · exact ⟨fun hz => absurd (h1.zl _ hz) (Nat.lt_irrefl _), fun e => absurd (h4.1.lt e).2 (Nat.lt_irrefl _), World.alloc_heap_new W o⟩
  · exact h4.2.step (Off.of_below (fun _ => False) hal) (fun _ _ e => e) (fun _ e => .inl e) (fun _ e => .inl e) q hq
/-- Bytes in a block that is let be. -/
theorem lv_addX (h : LV w W p vb v R ls hs s true g X) {q : Nat × Obj} (hq : q ∈ X) {A1 : Option Addr} {n1 c1 : Nat} {l : List Int} (hb : BAt W (.slice A1 n1 c1) l) (hbk : BK (fun k => k = q.1) (.slice A1 n1 c1) l) (hsm : Small l) (hx : ls.length < 99) :
    Calls Tryz.prog 10 #[.pointer (some ⟨vb, 0, none⟩), .slice A1 n1 c1] W fun e W' => ∃ E s', e = .returned (.int .i64 E) ∧ s'.used ≤ s.used + (9 + l.length) ∧
      ((E = 0 ∧ LV w W' p vb v R (ls ++ [l]) hs s' true (g + (9 + l.length)) X ∧ s'.a = s.a) ∨ (E = 14 ∧ s.a = true ∧ LV w W' p vb v R ls hs s' false (g + (9 + l.length)) X) ∨ (E = 7 ∧ R < s.used + (9 + l.length) ∧ s' = s ∧ LV w W' p vb v R ls hs s true g X)) := by
  obtain ⟨Z, lg, im, h1, h2, h3, h4, h5⟩ := h
  refine (vv_add h1 hb hsm (fun hp a n c ha hz => by
    have h6 := hbk hp a n c ha
    exact (h4.2 q hq).1 (by rw [← h6]; exact hz)) hx).mono ?_
  rintro e W' ⟨ho, E, s', rfl, hu, hcs⟩
  refine ⟨E, s', rfl, hu, ?_⟩
  rcases hcs with ⟨h0, hv, ha⟩ | ⟨h0, ha, hv⟩ | ⟨h0, hr, hs', hv⟩
  · exact .inl ⟨h0, lv_off h3 h4 h5 ho zn_or hv (by omega), ha⟩
  · exact .inr (.inl ⟨h0, ha, lv_off h3 h4 h5 ho zn_or hv (by omega)⟩)
  · rw [hs'] at hv
    exact .inr (.inr ⟨h0, hr, hs', lv_off h3 h4 h5 ho zn_or hv h2⟩)
end
/-- Whatever the vault's records are, they are told to be the law's, or not. -/
theorem lv_same {W : World} {u v : Value} {ls hs : List (List Int)} {q : Bool} (hu : Sp.RowsA W u ls) (hv : Sp.RowsA W v hs) (hl : (∀ l ∈ ls, Small l) ∧ ls.length ≤ 1000) (hh : (∀ l ∈ hs, Small l) ∧ hs.length ≤ 1000) (hq : decide (ls = hs) = q) : Calls Tryz.prog 15 #[u, v] W fun e W' => e = .returned (.bool q) ∧ Below W.heap.size W W' := by
  have h := Sp.rsame_any W u v ls hs hu hv (by omega) (by omega) (fun b hb => by have := (hl.1 b hb).2; omega) (fun b hb => by have := (hh.1 b hb).2; omega)
  rw [hq] at h
  exact h
end Go.Proofs.YtjijgoflbjbnfaaGreat.Vt
