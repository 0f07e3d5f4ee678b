/-
  The reference's Same over any bytes. Conditions: at most two million bytes.
-/
import Derived.Test.YtganokcmcdkdgaaGreatPZ6
import Derived.BigQuiet
import Derived.Below
import Derived.Test.YtganokcmcdkdgaaGreatUDe4
namespace Go.Proofs.YtganokcmcdkdgaaGreat.Pi
open Go.RowKit Fr

set_option maxRecDepth 100000 in
set_option maxHeartbeats 2000000 in
theorem bsame_any (w : World) (u v : Value) (l m : List Int) (hu : BAt w u l) (hv : BAt w v m) (hn : l.length ≤ 2000000) (hm : m.length ≤ 2000000) :
    Calls Tryz.prog 12 #[u, v] w fun e w' => e = .returned (.bool (decide (l = m))) ∧ Below w.heap.size w w' := by
  obtain ⟨A, cap, rfl, k1, h1⟩ := hu
  obtain ⟨A', cap', rfl, k2, h2⟩ := hv
  obtain ⟨n, hn2⟩ : ∃ n, n = l.length := ⟨_, rfl⟩
  obtain ⟨n', hn3⟩ : ∃ n', n' = m.length := ⟨_, rfl⟩
  obtain ⟨q, hq⟩ : ∃ q, q = decide (l = m) := ⟨_, rfl⟩
  rw [← hn2] at h1 hn k1 ⊢
  rw [← hn3] at h2 hm k2 ⊢
  rw [← hq]
  have H1 := Lib.hid h1
  have H2 := Lib.hid h2
  have HQ := Lib.hid hq
  have HL := Lib.hid (And.intro hn2 hn3)
  have e0 : (0 : Int) ≤ (n : Int) := by omega
  clear h1 h2 hn2 hn3 hq
  by_cases hnn : n = n'
  · subst hnn
    go_enter Tryz.func12, Tryz.ntmps12
    go_wp2
    go_loopg [5] n (fun (gh : Nat) s5 wx => ∃ i : Nat, gh = n - i ∧ i ≤ n ∧ s5 = .int .i64 (i : Int) ∧ Below w.heap.size w wx ∧ Hid (∀ k, k < i → l.getD k 0 = m.getD k 0))
    case atStart => exact ⟨0, rfl, Nat.zero_le _, rfl, Below.refl _ _, fun k hk => absurd hk (Nat.not_lt_zero _)⟩
    case round =>
      obtain ⟨i, rfl, hi, rfl, hbel, HAll⟩ := hrel
      by_cases hlt : i < n
      · have t1 : (i : Int) < (n : Int) := by omega
        have t2 : (0 : Int) ≤ (i : Int) := by omega
        obtain ⟨g, o, rfl, lg, hc1⟩ := H1.out (by omega)
        obtain ⟨g', o', rfl, lg', hc3⟩ := H2.out (by omega)
        obtain ⟨r, hr⟩ : ∃ r, r = l.getD i 0 := ⟨_, rfl⟩
        obtain ⟨r', hr'⟩ : ∃ r', r' = m.getD i 0 := ⟨_, rfl⟩
        have c1 : wr.cell? ⟨g, o + i, none⟩ = some (.int .u8 r) := by rw [hr]; exact (hbel.cell (p := ⟨g, o + i, none⟩) lg).trans (hc1 i hlt)
        have c3 : wr.cell? ⟨g', o' + i, none⟩ = some (.int .u8 r') := by rw [hr']; exact (hbel.cell (p := ⟨g', o' + i, none⟩) lg').trans (hc3 i hlt)
        have HB := Lib.hid hbel
        have HR := Lib.hid (And.intro hr hr')
        clear hbel hr hr' hc1 hc3
        by_cases hrr : r = r'
        · have HRR := Lib.hid hrr
          subst hrr
          go_wp2_with fail
          go_quiet (fail)
          go_wp2
          go_roundg (n - (i + 1))
          case measure => omega
          case rel =>
            refine ⟨i + 1, rfl, hlt, by go_num, ⟨HB.out.os, HB.out.tape, HB.out.output, HB.out.size, HB.out.block⟩, fun k hk => ?_⟩
            by_cases hki : k = i
            · rw [hki, ← HR.out.1, ← HR.out.2]
            · exact HAll.out k (by omega)
        · have hq : q = false := by
            rw [HQ.out]
            refine decide_eq_false fun e => hrr ?_
            rw [HR.out.1, HR.out.2, e]
          have HQF := Lib.hid hq
          have hrb1 : (r == r') = false := by simpa using hrr
          have hrb2 : (r != r') = true := by simpa using hrr
          clear hq
          go_wp2_with fail
          go_quiet (fail)
          go_wp2
          go_ret
          exact ⟨by rw [HQF.out]; rfl, ⟨HB.out.os, HB.out.tape, HB.out.output, HB.out.size, HB.out.block⟩⟩
      · have hil : i = n := by omega
        subst hil
        have t1 : decide ((i : Int) < (i : Int)) = false := by simp
        have HB := Lib.hid hbel
        have hq : q = true := by
          rw [HQ.out]
          refine decide_eq_true (List.ext_getElem (by rw [← HL.out.1, ← HL.out.2]) fun k h3 h4 => ?_)
          have h5 := HAll.out k (by rw [HL.out.1]; exact h3)
          rw [List.getD_eq_getElem?_getD, List.getD_eq_getElem?_getD, List.getElem?_eq_getElem h3, List.getElem?_eq_getElem h4] at h5
          exact h5
        have HQT := Lib.hid hq
        clear hbel hq
        go_wp2
        go_ret
        exact ⟨by rw [HQT.out]; rfl, HB.out⟩
  · have hq : q = false := by
      rw [HQ.out]
      refine decide_eq_false fun e => hnn ?_
      rw [HL.out.1, HL.out.2, e]
    have hne : ¬ (n : Int) = (n' : Int) := by omega
    have HQF := Lib.hid hq
    clear hq
    go_enter Tryz.func12, Tryz.ntmps12
    go_wp2
    go_ret
    exact ⟨by rw [HQF.out]; rfl, Below.refl _ _⟩
end Go.Proofs.YtganokcmcdkdgaaGreat.Pi

namespace Go.Proofs.YtganokcmcdkdgaaGreat
open Go Go.RowKit

/-- A world in which what lay in W lies as it lay. -/
structure InW (W : World) where
  val : World
  bel : Below W.heap.size W val
instance (W : World) : Inhabited (InW W) := ⟨⟨W, Below.refl _ _⟩⟩
theorem InW.cell {W : World} (p : InW W) {a : Addr} {v : Value} (h : W.cell? a = some v) : p.val.cell? a = some v := (p.bel.cell (World.block_lt_of_cell? _ _ h)).trans h
theorem wp_region_below {P : Program} {id : Nat} {Q : Exit → Act → World → Prop} {a : Act} {w W : World} {l : List Oper} (hm : P.follows .mixedOrders = true) (hB : Region.lexB .any l.toArray = true) (hb : Below W.heap.size W w)
    (h : wpQuiet P l.toArray (fun w' => ∃ p : InW W, w' = p.val) (fun a' => ∀ w', (∃ p : InW W, w' = p.val) → Q .normal a' w') l a) : (Code.region id l.toArray true).wp P Q a w :=
  wp_region_quiet (C := fun w' => ∃ p : InW W, w' = p.val) hm hB ⟨⟨w.drew, hb.drew⟩, rfl⟩ (by simpa using h)
theorem calls_in {P : Program} {W : World} {f : FuncId} {args : Array Value} {p : InW W} {v : Value} (h : Calls P f args p.val fun e w' => e = .returned v ∧ Below p.val.heap.size p.val w') :
    Calls P f args p.val fun e w'' => e = .returned v ∧ ∃ q : InW W, w'' = q.val :=
  h.mono fun _ _ ⟨he, hb⟩ => ⟨he, ⟨_, p.bel.trans (hb.mono p.bel.size)⟩, rfl⟩
end Go.Proofs.YtganokcmcdkdgaaGreat

namespace Go.Proofs.YtganokcmcdkdgaaGreat.Pi
open Go.RowKit Fr

theorem val5 {w : World} {b : Nat} {x0 x1 x2 x3 x4 : Value} {t : TypeId} (h : w.heap[b]? = some (.cells #[x0, x1, x2, x3, x4] t (0, 0))) :
    (w.cell? ⟨b, 0, none⟩ = some x0 ∧ w.cell? ⟨b, 1, none⟩ = some x1) ∧ (w.cell? ⟨b, 2, none⟩ = some x2 ∧ w.cell? ⟨b, 3, none⟩ = some x3) ∧ w.cell? ⟨b, 4, none⟩ = some x4 := by
  obtain ⟨c0, c1, c2, c3, c4⟩ := blk5 h
  exact ⟨⟨c0, c1⟩, ⟨c2, c3⟩, c4⟩
set_option maxRecDepth 100000 in
set_option maxHeartbeats 4000000 in
theorem rsame_eq (w : World) (k f t n : Int) (A A' : Option Addr) (q q' c c' : Nat) (l : List Int) (h1 : BAt w (.slice A q c) l) (h2 : BAt w (.slice A' q' c') l) (hl : l.length ≤ 2000000) :
    Calls Tryz.prog 11 #[.agg #[.int .i64 k, .int .i64 f, .int .i64 t, .int .i64 n, .slice A q c], .agg #[.int .i64 k, .int .i64 f, .int .i64 t, .int .i64 n, .slice A' q' c']] w fun e w' => e = .returned (.bool true) ∧ Below w.heap.size w w' := by
  have E1 := Tb.block_old (Tb.block_new w (.cells #[.int .i64 k, .int .i64 f, .int .i64 t, .int .i64 n, .slice A q c] 24)) (.cells #[.int .i64 k, .int .i64 f, .int .i64 t, .int .i64 n, .slice A' q' c'] 24)
  have E2 := Tb.block_new (w.alloc (.cells #[.int .i64 k, .int .i64 f, .int .i64 t, .int .i64 n, .slice A q c] 24)) (.cells #[.int .i64 k, .int .i64 f, .int .i64 t, .int .i64 n, .slice A' q' c'] 24)
  have hz : (w.alloc (.cells #[.int .i64 k, .int .i64 f, .int .i64 t, .int .i64 n, .slice A q c] 24)).heap.size = w.heap.size + 1 := by simp
  rw [hz] at E2
  have hb : Below w.heap.size w ((w.alloc (.cells #[.int .i64 k, .int .i64 f, .int .i64 t, .int .i64 n, .slice A q c] 24)).alloc (.cells #[.int .i64 k, .int .i64 f, .int .i64 t, .int .i64 n, .slice A' q' c'] 24)) := ((Below.refl _ _).alloc (Nat.le_refl _) _).alloc (by simp) _
  go_enter Tryz.func11, Tryz.ntmps11
  go_upto_region 1 with fail
  obtain ⟨W, hW⟩ : ∃ W, W = (w.alloc (.cells #[.int .i64 k, .int .i64 f, .int .i64 t, .int .i64 n, .slice A q c] 24)).alloc (.cells #[.int .i64 k, .int .i64 f, .int .i64 t, .int .i64 n, .slice A' q' c'] 24) := ⟨_, rfl⟩
  rw [← hW] at E1 E2 hb ⊢
  clear hW hz
  obtain ⟨c0, c1, c2, c3, c4⟩ := blk5 E1
  obtain ⟨d0, d1, d2, d3, d4⟩ := blk5 E2
  have CS : Hid (Calls Tryz.prog 12 #[.slice A q c, .slice A' q' c'] W fun e w' => e = .returned (.bool true) ∧ Below W.heap.size W w') := by
    have := bsame_any W _ _ l l (h1.kept hb) (h2.kept hb) hl hl
    rw [decide_eq_true rfl] at this
    exact this
  have HBB := Lib.hid hb
  clear E1 E2 h1 h2 hl hb
  go_wp2_with (go_at_call 12; (with_reducible refine CS.out.mono ?_); rintro e w1 ⟨rfl, hb1⟩; have HB1 := Lib.hid hb1; clear hb1)
  go_ret
  exact ⟨rfl, HBB.out.trans (HB1.out.mono HBB.out.size)⟩
/-! ### There and back -/
theorem cnt_fwd {n : Int} (h0 : 0 ≤ n) (hn : n ≤ 1099511627776) (r : List Int) : cntF 1099511627776 0 (Oc.grp n.toNat ++ r) = (0, n, r) := by
  have hr := Oc.rg_grp n.toNat r (by omega)
  unfold cntF
  rw [hr, if_pos rfl]
  dsimp only
  rw [if_pos rfl, if_pos (by omega), Int.toNat_of_nonneg h0]
theorem txt_fwd {x : List Int} (hl : x.length ≤ 1000) : txtF 0 (Oc.grp x.length ++ x) = (0, x, []) := by
  have hr := Oc.rg_grp x.length x (by omega)
  unfold txtF Sp.txt
  rw [hr, if_pos rfl]
  dsimp only
  rw [if_neg (by simp), if_neg (by omega), if_neg (by omega), List.take_length, List.drop_length]
theorem pk_fwd {k f t n : Int} {x : List Int} (hok : chkE k f t n x.length = 0) (hl : x.length ≤ 1000) : pkE (frF (pkB k f t n x)) = 0 ∧ pkV (frF (pkB k f t n x)) = (k, f, t, n, x) := by
  have hc := chk_ok hok
  have hlen := pkB_len k f t n x
  have eE := frF_opE (body := pkB k f t n x) (by omega)
  have eB := frF_opB (body := pkB k f t n x) (by omega)
  obtain ⟨R, hR⟩ : ∃ R, R = (if k = 1 then Oc.grp x.length ++ x else []) := ⟨_, rfl⟩
  have hb3 : b3 (pkB k f t n x) = (0, t, Oc.grp n.toNat ++ R) := by rw [hR]; rfl
  have hb4 : b4 (pkB k f t n x) = (0, n, R) := by unfold b4; rw [hb3]; exact cnt_fwd hc.2.1.1 hc.2.1.2 R
  have hk1 : (b1 (pkB k f t n x)).2.1 = k := rfl
  have he4 : e4 (pkB k f t n x) = 0 := by
    unfold e4; rw [hk1, hb4, if_pos (by unfold kdB; simpa using hc.1)]
  have hb5 : b5 (pkB k f t n x) = (0, x, []) := by
    unfold b5
    rw [hk1, he4, hb4]
    by_cases h1 : k = 1
    · rw [if_pos h1, hR, if_pos h1]; exact txt_fwd hl
    · have hx : x = [] := by
        have h2 : k = 2 := hc.1.resolve_left h1
        have := hc.2.2.1
        exact List.eq_nil_of_length_eq_zero (by omega)
      rw [if_neg h1, hR, if_neg h1, hx]
  have hpk : pkF (pkB k f t n x) = ⟨k, f, t, n, x, 0, []⟩ := by
    unfold pkF; rw [hb5, hb4, hb3]; rfl
  have hE : pkE (frF (pkB k f t n x)) = 0 := by
    unfold pkE
    rw [if_pos eE, eB]
    unfold bodyE
    rw [hpk]
    show (if Oc.doneE 0 [] = 0 then endE f t else Oc.doneE 0 []) = 0
    rw [if_pos (show Oc.doneE 0 [] = 0 from rfl)]
    unfold endE
    rw [if_pos ⟨hc.2.2.2.1.1, hc.2.2.2.1.2, hc.2.2.2.2.1.1, hc.2.2.2.2.1.2, hc.2.2.2.2.2⟩]
  refine ⟨hE, ?_⟩
  unfold pkV
  rw [if_pos hE, eB, hpk]
end Go.Proofs.YtganokcmcdkdgaaGreat.Pi
