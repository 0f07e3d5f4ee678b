/-
  The law TradeTotals answers true: its walk. Conditions: the library's variable internal/bytealg.MaxLen holds a number.
-/
import Derived.Test.YtkoihpfgleboiaaDoorYKno
import Derived.Test.YtkoihpfgleboiaaDoorYTo
import Derived.Test.YtkoihpfgleboiaaDoorYTot
import Derived.Deep.RegionHeld3
import Derived.Deep.RegionWith
namespace Go.Proofs.YtkoihpfgleboiaaDoor.Td
open Go.RowKit

theorem few_big {z : Int} (h : -22300745198530623141535718272648361505980416 < z) (k : z < 22300745198530623141535718272648361505980416) : Few z := by
  refine Bd.few ?_
  unfold Bd; rw [show bp 9 = 22300745198530623141535718272648361505980416 by decide]; omega
theorem mul_bound {a b : Int} (ha : I64 a) (hb : I64 b) : -85070591730234615865843651857942052864 ≤ a * b ∧ a * b ≤ 85070591730234615865843651857942052864 := by
  have h1 : a.natAbs ≤ 9223372036854775808 := by have := ha.1; have := ha.2; omega
  have h2 : b.natAbs ≤ 9223372036854775808 := by have := hb.1; have := hb.2; omega
  have h3 : (a * b).natAbs ≤ 9223372036854775808 * 9223372036854775808 := by rw [Int.natAbs_mul]; exact Nat.mul_le_mul h1 h2
  omega
theorem tot_bound : ∀ (ts : List Tr), (∀ t ∈ ts, I64 t.q ∧ I64 t.p) → -85070591730234615865843651857942052864 * (ts.length : Int) ≤ tot ts ∧ tot ts ≤ 85070591730234615865843651857942052864 * (ts.length : Int)
  | [], _ => by simp [tot]
  | t :: r, h => by
    have h1 := mul_bound (h t (List.mem_cons_self ..)).1 (h t (List.mem_cons_self ..)).2
    have h2 := tot_bound r fun x hx => h x (List.mem_cons_of_mem _ hx)
    simp only [tot, List.length_cons]
    push_cast
    omega
theorem tot_few {ts : List Tr} (h : ∀ t ∈ ts, I64 t.q ∧ I64 t.p) (hl : ts.length ≤ 30) : Few (tot ts) := by
  have := tot_bound ts h
  exact few_big (by omega) (by omega)
theorem tot_cut (ts : List Tr) : tot (ts.map cutT) = tot ts := by
  induction ts with
  | nil => rfl
  | cons t r ih => rw [List.map_cons, tot, tot, ih]; rfl
def trc (ts : List Tr) : List Value := ts.flatMap fun t => [.int .i64 t.n, .string t.b, .string t.s, .string t.i, .int .i64 t.q, .int .i64 t.p]
theorem trc_append (a b : List Tr) : trc (a ++ b) = trc a ++ trc b := by simp [trc]
theorem trc_len : ∀ ts : List Tr, (trc ts).length = ts.length * 6
  | [] => rfl
  | m :: ms => by
    have := trc_len ms
    show ([_, _, _, _, _, _] ++ trc ms).length = _
    simp; omega
theorem trc_get : ∀ (ts : List Tr) (i : Nat) (t : Tr), ts[i]? = some t → (trc ts)[i * 6]? = some (.int .i64 t.n) ∧ (trc ts)[i * 6 + 1]? = some (.string t.b) ∧ (trc ts)[i * 6 + 2]? = some (.string t.s) ∧ (trc ts)[i * 6 + 3]? = some (.string t.i) ∧ (trc ts)[i * 6 + 4]? = some (.int .i64 t.q) ∧ (trc ts)[i * 6 + 5]? = some (.int .i64 t.p)
  | [], _, _, h => by simp at h
  | a :: ms, 0, m, h => by simp at h; subst h; exact ⟨rfl, rfl, rfl, rfl, rfl, rfl⟩
  | a :: ms, i + 1, m, h => by
    have ih := trc_get ms i m (by simpa using h)
    have e : ∀ j, (trc (a :: ms))[6 + j]? = (trc ms)[j]? := fun j => by
      show ([_, _, _, _, _, _] ++ trc ms)[6 + j]? = _
      rw [List.getElem?_append_right (by simp)]
      simp
    rw [show (i + 1) * 6 = 6 + i * 6 by omega]
    refine ⟨(e _).trans ih.1, ?_, ?_, ?_, ?_, ?_⟩
    · rw [Nat.add_assoc]; exact (e _).trans ih.2.1
    · rw [Nat.add_assoc]; exact (e _).trans ih.2.2.1
    · rw [Nat.add_assoc]; exact (e _).trans ih.2.2.2.1
    · rw [Nat.add_assoc]; exact (e _).trans ih.2.2.2.2.1
    · rw [Nat.add_assoc]; exact (e _).trans ih.2.2.2.2.2
theorem own_trs {w : World} {base : Nat} {v : Value} {ts : List Tr} (h : w.ownsRow base 28 6 v ts.length (trc ts)) : ∃ A cap, v = .slice A ts.length cap ∧ TrsR w A ts := by
  rcases h.2 with ⟨rfl, h0⟩ | ⟨g, cap, cur, rfl, _, hh, _, _, hs, ht⟩
  · obtain rfl : ts = [] := List.length_eq_zero_iff.1 h0
    exact ⟨none, 0, rfl, .inl rfl⟩
  · refine ⟨_, cap, rfl, .inr ⟨g, 0, rfl, (Array.getElem?_eq_some_iff.1 hh).1, fun i t hi => ?_⟩⟩
    have hlt : i < ts.length := (List.getElem?_eq_some_iff.1 hi).1
    have e : ∀ k, k < 6 → w.cell? ⟨g, 0 + i * 6 + k, none⟩ = (trc ts)[i * 6 + k]? := fun k hk => by
      rw [Nat.zero_add, cell_of_row _ g _ _ _ _ hh, ← ht, List.getElem?_take, if_pos (by omega)]
      simp
    have hc := trc_get ts i t hi
    exact ⟨(e 0 (by omega)).trans hc.1, (e 1 (by omega)).trans hc.2.1, (e 2 (by omega)).trans hc.2.2.1, (e 3 (by omega)).trans hc.2.2.2.1, (e 4 (by omega)).trans hc.2.2.2.2.1, (e 5 (by omega)).trans hc.2.2.2.2.2⟩
theorem infoT : (Tryd.prog.info? 28).map (fun i => (i.zero, i.size, i.bytes)) = some (some (.agg #[.int .i64 0, .string ByteArray.empty, .string ByteArray.empty, .string ByteArray.empty, .int .i64 0, .int .i64 0]), 6, 72) := by kernel_rfl
theorem to_low (w : World) (x y : Tr) (hy : Hid (y = cutT x)) : Calls Tryd.prog 5 #[.agg #[.int .i64 x.n, .string x.b, .string x.s, .string x.i, .int .i64 x.q, .int .i64 x.p]] w fun e w' => e = .returned (.agg #[.int .i64 y.n, .string y.b, .string y.s, .string y.i, .int .i64 y.q, .int .i64 y.p]) ∧ Below w.heap.size w w' := by
  refine (to_exact w x y hy).mono ?_
  rintro e w' ⟨he, hw⟩
  refine ⟨he, ?_⟩
  rw [hw]
  have h1 : Below w.heap.size w (w.alloc (.cells #[.int .i64 x.n, .string x.b, .string x.s, .string x.i, .int .i64 x.q, .int .i64 x.p] 30)) := (Below.refl _ _).alloc (Nat.le_refl _) _
  exact (h1.alloc h1.size _).drew
theorem zero_num (w : World) : NumIs w (.agg #[.bool false, .slice none 0 0]) 0 := ⟨none, 0, 0, rfl, by rw [show (0 : Int).natAbs = 0 from rfl, digs_zero]; exact Digs.nil w⟩
theorem own_set {w : World} {base n : Nat} {e : TypeId} {size : Nat} {v : Value} {xs : List Value} (h : w.ownsRow base e size v n xs) {b : Nat} (hb : b < base) (o : Nat) (u : Value) : (w.setCell ⟨b, o, none⟩ u).ownsRow base e size v n xs :=
  ⟨h.1, h.2.imp id fun ⟨g, cap, cur, e1, h1, h2, h3⟩ => ⟨g, cap, cur, e1, h1, block_set h2 (by show g ≠ b; omega) u, h3⟩⟩
/-- The sum so far lies in block b. -/
def SumAt (w : World) (b : Nat) (z : Int) : Prop := ∃ A n c, w.heap[b]? = some (.cells #[.bool (decide (z < 0)), .slice A n c] 26 (0, 0)) ∧ NumIs w (.agg #[.bool (decide (z < 0)), .slice A n c]) z
theorem SumAt.below {w w' : World} {b : Nat} {z : Int} (h : SumAt w b z) (hb : Below w.heap.size w w') : SumAt w' b z :=
  let ⟨A, n, c, h1, h2⟩ := h
  ⟨A, n, c, block_kept h1 hb, h2.below hb (Nat.le_refl _)⟩

theorem num_grown {w w' : World} {base n : Nat} {v : Value} {xs : List Value} {u : Value} {z : Int} (ho : w.ownsRow base 28 6 v n xs) (hg : w.grownBy w' v.ownBlock) (h : NumIs w u z) : NumIs w' u z :=
  h.keep fun g cur fr hgk => (hg.block g (Array.getElem?_eq_some_iff.1 hgk).1 (fun e => by
    rcases ho.2 with ⟨rfl, _⟩ | ⟨g', cap, cu, rfl, _, hh, _⟩
    · cases e
    · obtain rfl : g = g' := by simpa [Value.ownBlock] using e
      rw [hgk] at hh
      simp at hh)).trans hgk
theorem sum_grown {w w' : World} {base n : Nat} {v : Value} {xs : List Value} {b : Nat} {A : Option Addr} {k c : Nat} {z : Int} (ho : w.ownsRow base 28 6 v n xs) (hg : w.grownBy w' v.ownBlock) (hb : b < base)
    (h1 : w.heap[b]? = some (.cells #[.bool (decide (z < 0)), .slice A k c] 26 (0, 0))) (h2 : NumIs w (.agg #[.bool (decide (z < 0)), .slice A k c]) z) : SumAt w' b z :=
  ⟨A, k, c, (hg.block b (Array.getElem?_eq_some_iff.1 h1).1 (fun e => by have := (ho.lt b e.symm).1; omega)).trans h1, num_grown ho hg h2⟩
theorem four_cells {w : World} {b c : Nat} {x0 x1 y0 y1 : Value} {t t' : TypeId} (h : w.heap[b]? = some (.cells #[x0, x1] t (0, 0))) (k : w.heap[c]? = some (.cells #[y0, y1] t' (0, 0))) :
    w.cell? ⟨b, 0, none⟩ = some x0 ∧ w.cell? ⟨b, 1, none⟩ = some x1 ∧ w.cell? ⟨c, 0, none⟩ = some y0 ∧ w.cell? ⟨c, 1, none⟩ = some y1 :=
  ⟨by rw [cell_of_row _ _ _ _ _ _ h]; rfl, by rw [cell_of_row _ _ _ _ _ _ h]; rfl, by rw [cell_of_row _ _ _ _ _ _ k]; rfl, by rw [cell_of_row _ _ _ _ _ _ k]; rfl⟩
theorem cmp_same (w : World) (u v : Value) (x y : Int) (h : NumIs w u x) (h' : NumIs w v y) (hxy : x = y) : Calls Tryd.prog 11 #[u, v] w fun e w' => e = .returned (.int .i64 0) ∧ Below w.heap.size w w' := by
  subst hxy
  refine (_root_.Go.Proofs.YtkoihpfgleboiaaDoor.compare_any w u v x x h h').mono ?_
  rintro e w' ⟨rfl, hb⟩
  exact ⟨ret_int (by unfold cmpI; simp), hb⟩
theorem alloc_below (w : World) (o : Obj) : Below w.heap.size w (w.alloc o) := (Below.refl _ _).alloc (Nat.le_refl _) _
set_option maxRecDepth 100000 in
set_option maxHeartbeats 8000000 in
theorem law_totals (w : World) (m : Int) (hm : w.cell? ⟨0, 0, none⟩ = some (.int .i64 m)) (A : Option Addr) (len c : Nat) (ts : List Tr) (h : TrsR w A ts) (hl : ts.length = min len 30) (hq : ∀ t ∈ ts, I64 t.q ∧ I64 t.p) :
    Calls Tryd.prog 3 #[.slice A len c] w fun e w' => e = .returned (.bool true) ∧ Below w.heap.size w w' := by
  obtain ⟨i0, hi0, hz0, hz1, hz2⟩ := info_parts infoT
  have HTR := Lib.hid h
  have HQ := Lib.hid hq
  have HM := Lib.hid hm
  have hn30 : ts.length ≤ 30 := by omega
  have hnlen : ts.length ≤ len := by omega
  have hfst : Hid ((ts.length < len ∧ ¬ ts.length < 30) ∨ ¬ ts.length < len) := by show _ ∨ _; omega
  have hb0 : Below w.heap.size w (w.alloc (.cells #[.bool false, .slice none 0 0] 26)) := (Below.refl _ _).alloc (Nat.le_refl _) _
  have HB0 := Lib.hid hb0
  have HS0 : Hid (SumAt (w.alloc (.cells #[.bool false, .slice none 0 0] 26)) w.heap.size 0) := ⟨none, 0, 0, block_new w _, zero_num _⟩
  have hs0 : w.heap.size + 1 ≤ (w.alloc (.cells #[.bool false, .slice none 0 0] 26)).heap.size := by simp
  clear h hq hm hb0 hl
  go_enter Tryd.func3, Tryd.ntmps3
  go_wp2
  obtain ⟨W0, hW0⟩ : ∃ W0, W0 = w.alloc (.cells #[.bool false, .slice none 0 0] 26) := ⟨_, rfl⟩
  rw [← hW0] at HB0 HS0 hs0 ⊢
  clear hW0
  go_loopg [5, 3] ts.length (fun (gh : Nat) si sv wx => ∃ i : Nat, gh = ts.length - i ∧ i ≤ ts.length ∧ si = .int .i64 (i : Int) ∧ Hid (wx.ownsRow (w.heap.size + 1) 28 6 sv i (trc ((ts.take i).map cutT)) ∧ SumAt wx w.heap.size (tot (ts.take i)) ∧ Below w.heap.size w wx ∧ w.heap.size + 1 ≤ wx.heap.size))
  case atStart => exact ⟨0, rfl, Nat.zero_le _, rfl, World.ownsRow_nil _ _ _ _, HS0.out, HB0.out, hs0⟩
  case round =>
    clear hs0 HS0 HB0
    obtain ⟨i, rfl, him, rfl, hinv⟩ := hrel
    obtain ⟨how, hsum, hbel, hsz⟩ := hinv.out
    by_cases hlt : i < ts.length
    · obtain ⟨t, ht⟩ : ∃ t, ts[i]? = some t := ⟨_, List.getElem?_eq_getElem hlt⟩
      rcases HTR.out with h0 | ⟨g, o, rfl, hg, hcell⟩
      · rw [h0] at ht; simp at ht
      have hcells : ∀ W, Below w.heap.size w W → W.cell? ⟨g, o + i * 6, none⟩ = some (.int .i64 t.n) ∧ W.cell? ⟨g, o + i * 6 + 1, none⟩ = some (.string t.b) ∧ W.cell? ⟨g, o + i * 6 + 2, none⟩ = some (.string t.s) ∧ W.cell? ⟨g, o + i * 6 + 3, none⟩ = some (.string t.i) ∧ W.cell? ⟨g, o + i * 6 + 4, none⟩ = some (.int .i64 t.q) ∧ W.cell? ⟨g, o + i * 6 + 5, none⟩ = some (.int .i64 t.p) := fun W hW =>
        let ⟨d0, d1, d2, d3, d4, d5⟩ := hcell i t ht
        ⟨(hW.cell (p := ⟨g, o + i * 6, none⟩) hg).trans d0, (hW.cell (p := ⟨g, o + i * 6 + 1, none⟩) hg).trans d1, (hW.cell (p := ⟨g, o + i * 6 + 2, none⟩) hg).trans d2, (hW.cell (p := ⟨g, o + i * 6 + 3, none⟩) hg).trans d3, (hW.cell (p := ⟨g, o + i * 6 + 4, none⟩) hg).trans d4, (hW.cell (p := ⟨g, o + i * 6 + 5, none⟩) hg).trans d5⟩
      obtain ⟨c0, c1, c2, c3, c4, c5⟩ := hcells wr hbel
      have HCELLS := Lib.hid hcells
      have t1 : (i : Int) < (len : Int) := by omega
      have t2 : (i : Int) < 30 := by omega
      have t3 : (0 : Int) ≤ (i : Int) := by omega
      have hqp := HQ.out t (List.mem_of_getElem? ht)
      obtain ⟨y, hy⟩ : ∃ y, y = cutT t := ⟨_, rfl⟩
      have HY := Lib.hid hy
      have HST := Lib.hid (tot_step ht)
      have HTK : Hid ((ts.take (i + 1)).map cutT = (ts.take i).map cutT ++ [y]) := by
        show _ = _
        rw [List.take_succ_eq_append_getElem hlt, (List.getElem?_eq_some_iff.1 ht).2, List.map_append, hy]; rfl
      have hfew : Few (tot (ts.take i)) := tot_few (fun x hx => HQ.out x (List.mem_of_mem_take hx)) (by rw [List.length_take]; omega)
      have HFEW := Lib.hid hfew
      have HFT : Hid (Few (t.q * t.p)) := by have := mul_bound hqp.1 hqp.2; exact few_big (by omega) (by omega)
      have HRV : Hid (∀ W, Calls Tryd.prog 7 #[.agg #[.int .i64 t.n, .string t.b, .string t.s, .string t.i, .int .i64 t.q, .int .i64 t.p]] W fun e w' => ∃ u, e = .returned u ∧ NumIs w' u (t.q * t.p) ∧ Below W.heap.size W w') := fun W => rvalue_any W t hqp.1 hqp.2 (Lib.hid rfl)
      obtain ⟨T, hT⟩ : ∃ T, T = tot (ts.take i) := ⟨_, rfl⟩
      obtain ⟨P, hP⟩ : ∃ P, P = t.q * t.p := ⟨_, rfl⟩
      rw [← hT] at hsum HST HFEW
      rw [← hP] at HST HFT HRV
      have HHOW := Lib.hid how
      have HSUM := Lib.hid hsum
      have HBEL := Lib.hid hbel
      have hgs : g < w.heap.size := hg
      have HTO := Lib.hid (fun W => to_low W t y HY)
      clear hcells hcell hqp hfew ht hy hT hP how hsum hbel hinv
      go_wp2_with (first
        | (go_at_call 5; refine (HTO.out _).mono ?_; rintro e w2 ⟨rfl, hb⟩; have HO2 := Lib.hid (own_below HHOW.out hb); have HS2 := Lib.hid (HSUM.out.below hb); have HB2 := Lib.hid (HBEL.out.trans (hb.mono HBEL.out.size)); have hs2 : w.heap.size + 1 ≤ w2.heap.size := Nat.le_trans hsz hb.size; clear hb)
        | (at_builtin; refine wpList_append_own _ rfl _ _ 23 rfl (w.heap.size + 1) 28 i0 _ 6 72 Tryd.underlying23 hi0 hz0 hz1 hz2 rfl (by decide) _ _ _ rfl (HO2.out.alloc _) ⟨w2.heap.size, 0, none⟩ 1 1 [.int .i64 y.n, .string y.b, .string y.s, .string y.i, .int .i64 y.q, .int .i64 y.p] rfl rfl (World.news_of_block (cs := #[.int .i64 y.n, .string y.b, .string y.s, .string y.i, .int .i64 y.q, .int .i64 y.p]) (t := 28) (fr := (0, 0)) (heap_alloc_new w2 _)) (by simp [Value.oneCell']) (by unfold maxLen; omega) (by omega) (by simp; omega) ?_; intro v' w3 hown' hgrow hnil))
      have HO3 := Lib.hid hown'
      have hA2 : Below w2.heap.size w2 (w2.alloc (.cells #[.int .i64 y.n, .string y.b, .string y.s, .string y.i, .int .i64 y.q, .int .i64 y.p] 28)) := (Below.refl _ _).alloc (Nat.le_refl _) _
      have hsum3 : SumAt w3 w.heap.size T := by
        obtain ⟨A1, n1, k1, e1, e2⟩ := HS2.out.below hA2
        exact sum_grown (HO2.out.alloc _) hgrow (Nat.lt_succ_self _) e1 e2
      have HB3 : Hid (Below w.heap.size w w3) := (HB2.out.alloc HB2.out.size _).grown hgrow (by have := HB2.out.size; simp; omega) (fun j hj => by have := (HO2.out.lt j hj).1; omega)
      have hs3 : w.heap.size + 1 ≤ w3.heap.size := by have := hgrow.size; simp at this; omega
      obtain ⟨A1, n1, k1, e1, e2⟩ := hsum3
      obtain ⟨x0, x1, g0, g1⟩ := blk2 e1
      obtain ⟨d0, d1, d2, d3, d4, d5⟩ := HCELLS.out w3 HB3.out
      have HE1 := Lib.hid e1
      have HE2 := Lib.hid e2
      clear hown' hgrow hnil hA2 e1 e2 c0 c1 c2 c3 c4 c5
      go_upto_region 7 with fail
      have HD3 : Hid (Below w3.heap.size w3 w3.drew) := (Below.refl _ _).drew
      go_region_with (first
        | (go_at_call 7; (with_reducible refine (HRV.out _).mono ?_); rintro e w4 ⟨u, rfl, ⟨A4, n4, k4, rfl, hd4⟩, hb⟩; have N4 : Hid (NumIs w4 (.agg #[.bool (decide (P < 0)), .slice A4 n4 k4]) P) := (⟨A4, n4, k4, rfl, hd4⟩ : NumIs w4 (.agg #[.bool (decide (P < 0)), .slice A4 n4 k4]) P); have HB4 : Hid (Below w3.heap.size w3 w4) := HD3.out.trans hb; have N14 := Lib.hid (NumIs.below HE2.out HB4.out (Nat.le_refl _)); have HX4 := Lib.hid (block_kept HE1.out HB4.out); obtain ⟨p0, p1, _, _⟩ := blk2 HX4.out; clear hb hd4)
        | (go_at_call 6; (with_reducible refine (add_any w4 _ _ T P N14.out N4.out HFEW.out HFT.out).mono ?_); rintro e w5 ⟨u, rfl, ⟨A5, n5, k5, rfl, hd5⟩, hb⟩; have N5 : Hid (NumIs w5 (.agg #[.bool (decide (T + P < 0)), .slice A5 n5 k5]) (T + P)) := (⟨A5, n5, k5, rfl, hd5⟩ : NumIs w5 (.agg #[.bool (decide (T + P < 0)), .slice A5 n5 k5]) (T + P)); have HX5 := Lib.hid (block_kept HX4.out hb); have HB5 := Lib.hid (HB4.out.trans (hb.mono HB4.out.size)); obtain ⟨q0, q1, f0, f1⟩ := blk2 HX5.out; clear hb hd5))
      all_goals
        go_wp2
        go_roundg (ts.length - (i + 1))
        case measure => omega
        case rel =>
          have o5 := own_below HO3.out HB5.out
          have b5 := HB3.out.trans (HB5.out.mono HB3.out.size)
          have z5 := HB5.out.size
          refine ⟨i + 1, rfl, by omega, by go_num, ?_, ?_, ?_, ?_⟩
          · rw [HTK.out, trc_append]
            exact own_set (own_set o5 (Nat.lt_succ_self _) _ _) (Nat.lt_succ_self _) _ _
          · rw [HST.out]
            exact ⟨A5, n5, k5, heap_setCell_same _ w.heap.size 1 _ _ _ (heap_setCell_same w5 w.heap.size 0 _ _ _ HX5.out), num_stored N5.out HX5.out _ _⟩
          · exact (b5.setCell (p := ⟨w.heap.size, 0, none⟩) (Nat.le_refl _) _).setCell (p := ⟨w.heap.size, 1, none⟩) (Nat.le_refl _) _
          · simp [World.setCell]; omega
    · obtain rfl : i = ts.length := by omega
      rw [List.take_of_length_le (Nat.le_refl _)] at how hsum
      obtain ⟨A2, cap2, rfl, hmr⟩ := own_trs (ts := ts.map cutT) (by rw [List.length_map]; exact how)
      rw [List.length_map]
      have hT := total_any wr A2 cap2 (ts.map cutT) hmr (by rw [List.length_map]; omega) (fun t ht => by
        obtain ⟨t', h1, rfl⟩ := List.mem_map.1 ht
        exact HQ.out t' h1)
      rw [List.length_map, tot_cut] at hT
      obtain ⟨T, hTT⟩ : ∃ T, T = tot ts := ⟨_, rfl⟩
      rw [← hTT] at hT hsum
      have HT := Lib.hid hT
      have HSUM := Lib.hid hsum
      have HBEL := Lib.hid hbel
      have t1 : ¬ ((ts.length : Int) < (len : Int)) ∨ ((ts.length : Int) < (len : Int)) := by omega
      clear hT hTT how hsum hbel hinv hmr hlt t1
      rcases hfst.out with ⟨hA, hA2⟩ | hA
      all_goals
        go_wp2_with (go_at_call 8; refine HT.out.mono ?_; rintro e w2 ⟨h, l, er, rfl, hsp, hb⟩; have HSP := Lib.hid hsp; have HS2 := Lib.hid ((HSUM.out.below hb).below (alloc_below w2 (.cells #[.int .i64 h, .int .u64 l] 35))); have HB2 := Lib.hid ((HBEL.out.trans (hb.mono HBEL.out.size)).trans ((alloc_below w2 (.cells #[.int .i64 h, .int .u64 l] 35)).mono (HBEL.out.trans (hb.mono HBEL.out.size)).size)); have HWB := Lib.hid (block_new w2 (.cells #[.int .i64 h, .int .u64 l] 35)); obtain ⟨A1, n1, k1, e1, e2⟩ := HS2.out; obtain ⟨x0, x1, _, _⟩ := blk2 e1; have HE1 := Lib.hid e1; have HE2 := Lib.hid e2; clear hb hsp e1 e2)
        have hkn : ∀ W, Below w.heap.size w W → Calls Tryd.prog 10 #[] W fun e w' => e = .returned (.bool true) ∧ Below W.heap.size W w' := fun W hW => known_any W m ((hW.cell (World.block_lt_of_cell? _ _ HM.out)).trans HM.out)
        have HKN := Lib.hid hkn
        clear hkn x0 x1
        obtain ⟨W2, hW2⟩ : ∃ W2, W2 = w2.alloc (.cells #[.int .i64 h, .int .u64 l] 35) := ⟨_, rfl⟩
        rw [← hW2] at HB2 HWB HE1 HE2 ⊢
        clear hW2 HS2
        rcases HSP.out with ⟨hin, hwk, hwv, rfl⟩ | ⟨hin, rfl, rfl, rfl⟩
        · have HF := Lib.hid (fits128_yes W2 _ T HE2.out (Lib.hid hin))
          have HWK := Lib.hid hwk
          have HWV := Lib.hid hwv
          clear hin hwk hwv HSP
          go_wp2_with (go_at_call 9; refine HF.out.mono ?_; rintro e w4 ⟨rfl, hb⟩; have HB4 := Lib.hid hb; clear hb)
          have S4 : Hid (w4.cell? ⟨w2.heap.size, 0, none⟩ = some (.int .i64 h) ∧ w4.cell? ⟨w2.heap.size, 1, none⟩ = some (.int .u64 l) ∧ w4.cell? ⟨w.heap.size, 0, none⟩ = some (.bool (decide (T < 0))) ∧ w4.cell? ⟨w.heap.size, 1, none⟩ = some (.slice A1 n1 k1)) := four_cells (block_kept HWB.out HB4.out) (block_kept HE1.out HB4.out)
          have S4d : Hid (w4.drew.cell? ⟨w2.heap.size, 0, none⟩ = some (.int .i64 h) ∧ w4.drew.cell? ⟨w2.heap.size, 1, none⟩ = some (.int .u64 l) ∧ w4.drew.cell? ⟨w.heap.size, 0, none⟩ = some (.bool (decide (T < 0))) ∧ w4.drew.cell? ⟨w.heap.size, 1, none⟩ = some (.slice A1 n1 k1)) := S4
          have H4d : Hid (Below W2.heap.size W2 w4.drew) := HB4.out.drew
          go_upto_region 11 with fail
          go_region_held3 (fun w' => w'.cell? ⟨w2.heap.size, 0, none⟩ = some (.int .i64 h) ∧ w'.cell? ⟨w2.heap.size, 1, none⟩ = some (.int .u64 l) ∧ w'.cell? ⟨w.heap.size, 0, none⟩ = some (.bool (decide (T < 0))) ∧ w'.cell? ⟨w.heap.size, 1, none⟩ = some (.slice A1 n1 k1))
            (first | (with_reducible exact S4d.out) | (with_reducible exact S5.out) | (with_reducible exact S6.out) | (with_reducible exact S7.out))
            (first
              | (go_at_call 10; (with_reducible refine (HKN.out _ (HB2.out.trans (H4d.out.mono HB2.out.size))).mono ?_); rintro e w5 ⟨rfl, hb⟩; have H5 : Hid (Below W2.heap.size W2 w5) := H4d.out.trans (hb.mono H4d.out.size); have S5 := Lib.hid (four_cells (block_kept HWB.out H5.out) (block_kept HE1.out H5.out)); clear hb)
              | (go_at_call 12; (with_reducible refine (num_any w5 h l HWK.out).mono ?_); rintro e w6 ⟨u, rfl, ⟨A6, n6, k6, rfl, hd6⟩, hb⟩; have N6 : Hid (NumIs w6 (.agg #[.bool (decide (wv h l < 0)), .slice A6 n6 k6]) (wv h l)) := (⟨A6, n6, k6, rfl, hd6⟩ : NumIs w6 (.agg #[.bool (decide (wv h l < 0)), .slice A6 n6 k6]) (wv h l)); have H6 : Hid (Below W2.heap.size W2 w6) := H5.out.trans (hb.mono H5.out.size); have S6 := Lib.hid (four_cells (block_kept HWB.out H6.out) (block_kept HE1.out H6.out)); have NT6 := Lib.hid (NumIs.below HE2.out H6.out (Nat.le_refl _)); clear hb hd6)
              | (go_at_call 11; (with_reducible refine (cmp_same w6 _ _ (wv h l) T N6.out NT6.out HWV.out).mono ?_); rintro e w7 ⟨rfl, hb⟩; have H7 : Hid (Below W2.heap.size W2 w7) := H6.out.trans (hb.mono H6.out.size); have S7 := Lib.hid (four_cells (block_kept HWB.out H7.out) (block_kept HE1.out H7.out)); clear hb))
          go_wp2
          go_ret
          exact ⟨rfl, HB2.out.trans (H7.out.mono HB2.out.size)⟩
        · have HF := Lib.hid (fits128_no W2 _ T HE2.out (Lib.hid hin))
          clear hin HSP
          go_wp2_with (first
            | (go_at_call 9; refine HF.out.mono ?_; rintro e w4 ⟨rfl, hb⟩; have HB4 := Lib.hid (HB2.out.trans (hb.mono HB2.out.size)); clear hb)
            | (go_at_call 10; refine (HKN.out _ HB4.out).mono ?_; rintro e w5 ⟨rfl, hb⟩; have HB5 := Lib.hid (HB4.out.trans (hb.mono HB4.out.size)); clear hb))
          go_ret
          exact ⟨rfl, HB5.out⟩
end Go.Proofs.YtkoihpfgleboiaaDoor.Td
