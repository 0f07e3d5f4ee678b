/-
  The contract of Of: the table of the rows put one behind the other. Conditions: the sort's contract up to N rows, at most a thousand rows.
-/
import Derived.Test.YtjijgoflbjbnfaaGreatTGathIb
import Derived.Test.YtjijgoflbjbnfaaGreatTLays
import Derived.Test.YtjijgoflbjbnfaaGreatVM19
import Derived.Test.YtjijgoflbjbnfaaGreatVM17
namespace Go.Proofs.YtjijgoflbjbnfaaGreat.Tb.Ib
open Go.RowKit Go.Sort

/-- A new table. -/
def MadeT (w : World) (rs : List R) (e : Ending) (w' : World) : Prop := ∃ tb, e = .returned (.pointer (some ⟨tb, 0, none⟩)) ∧ TabO w.heap.size w' tb rs ∧ Below w.heap.size w w'
/-- The sort keeps its contract up to N rows. -/
def SortOK (N : Nat) : Prop := ∀ (w : World) (g off cap : Nat) (l : List R), HoldsK enc 2 w g off l.toArray → g < w.heap.size → l.length ≤ N →
  Calls Tryz.prog 107 #[.slice (some ⟨g, off, none⟩) l.length cap, .func (.func 108) #[] #[]] w fun e w' => e = .returned (.tuple #[]) ∧ Sorted w g off l w'
theorem sortOK_small : SortOK 19 := fun w g off cap l h hg hn => sort_small w g off cap l h hg (by omega)

theorem holds_own {w : World} {base g cap : Nat} {l : List R} (h : w.ownsRow base 100 2 (.slice (some ⟨g, 0, none⟩) l.length cap) l.length (cells l)) : HoldsK enc 2 w g 0 l.toArray :=
  holdsK_of w g 0 l fun i r hi => by
    have hlt : i < l.length := (List.getElem?_eq_some_iff.1 hi).1
    have hc := cells_get l i r hi
    rw [Nat.zero_add]
    exact ⟨⟨(h.cellAt _ (by omega)).trans hc.1, (h.cellAt _ (by omega)).trans hc.2⟩, h.frozenAt _, h.frozenAt _⟩
/-- What the sort leaves reads as the sorted rows. -/
theorem sortedR_of {w w' : World} {g cap : Nat} {l : List R} {S : Nat → Prop} (hS : S g) (hg : g < w.heap.size) (hH : HoldsK enc 2 w g 0 l.toArray) (hc : l.length ≤ cap) (h : Sorted w g 0 l w') : SortedR S w (.slice (some ⟨g, 0, none⟩) l.length cap) l w' := by
  obtain ⟨d, hd, hst, hsw⟩ := h
  have hk := kept_of_swk hsw
  have hh := hsw.holds hg hH (by rw [hd]; simp)
  have hl : d.toList.length = l.length := by simpa using hd
  refine ⟨d.toList, hst, hl, ⟨some ⟨g, 0, none⟩, cap, by rw [hl], by rw [hl]; exact hc, fun e => (by cases e), .inr ⟨g, 0, rfl, Nat.lt_of_lt_of_le hg hk.size, fun i r hi => cells_of_holds hh i r hi⟩⟩, hk.mono fun k _ e => by rw [e]; exact hS⟩
/-- The sort of a row of one's own. -/
theorem sort_own (N : Nat) (hN : SortOK N) (w : World) (base : Nat) (v : Value) (l : List R) (h : w.ownsRow base 100 2 v l.length (cells l)) (hl : l.length ≤ N) :
    Calls Tryz.prog 107 #[v, .func (.func 108) #[] #[]] w fun e w' => e = .returned (.tuple #[]) ∧ SortedR (fun k => base ≤ k) w v l w' := by
  rcases h.2 with ⟨rfl, h0⟩ | ⟨g, cap, cur, rfl, hg, hh, hc, _⟩
  · have : l = [] := List.length_eq_zero_iff.1 h0
    subst this
    exact (sort_none none 0 _ w).mono fun e w' ⟨h1, h2⟩ => ⟨h1, [], ⟨List.Pairwise.nil, fun _ => rfl⟩, rfl, by rw [← h2]; exact RowsR.nil w, by rw [← h2]; exact Kept.refl _ _⟩
  · have hgl : g < w.heap.size := (Array.getElem?_eq_some_iff.1 hh).1
    exact (hN w g 0 cap l (holds_own h) hgl hl).mono fun e w' ⟨h1, h2⟩ => ⟨h1, sortedR_of hg hgl (holds_own h) hc h2⟩

set_option maxRecDepth 100000 in
theorem last_any (a b : V) (w : World) : Calls Tryz.prog 77 #[ev a, ev b] w fun e w' => e = .returned (ev (lastV a b)) ∧ w = w' := by
  unfold ev lastV
  go_enter Tryz.func77, Tryz.ntmps77
  go_wp2
  go_ret
  exact ⟨rfl, rfl⟩

/-- gather over a row of one's own. -/
theorem gather_own (N : Nat) (hN : SortOK N) (j : V → V → V) (jf : Nat) (cb : Array Value) (w : World) (base : Nat) (v : Value) (l : List R) (hn : l.length ≤ 1000) (hl : l.length ≤ N) (h : w.ownsRow base 100 2 v l.length (cells l))
    (eg : ∀ args w, (callFunc jf args).run Tryz.prog w = .ok (.enter jf args) w)
    (hj : ∀ a b W, Kept (fun k => base ≤ k) w W → Calls Tryz.prog jf (#[ev a, ev b] ++ cb) W fun e w' => e = .returned (ev (j a b)) ∧ W = w') :
    Calls Tryz.prog 75 #[v, .func (.func jf) #[] cb] w (Gathered (fun k => base ≤ k) j w l) := by
  have hs := sort_own N hN w base v l h hl
  rcases Go.Joins.ownsRow_forms h with ⟨rfl, h0⟩ | ⟨g, cap, rfl⟩
  · rw [show Value.slice none 0 0 = .slice none l.length 0 by rw [h0]] at hs ⊢
    exact gather_any _ j jf cb w none 0 l hn eg hj hs
  · exact gather_any _ j jf cb w _ cap l hn eg hj hs

set_option maxRecDepth 100000 in
theorem clone_any (w : World) (v : Value) (l : List R) (h : RowsR w v l) (hn : l.length ≤ 1000) :
    Calls Tryz.prog 76 #[v] w fun e w' => ∃ v', e = .returned v' ∧ w'.ownsRow w.heap.size 100 2 v' l.length (cells l) ∧ Below w.heap.size w w' := by
  obtain ⟨A, cap, rfl, hc, hA, h3⟩ := h
  rcases h3 with ⟨rfl, rfl⟩ | ⟨g, o, rfl, hg, hcell⟩
  · have h := AnyE.slices_Clone_nil Tryz.cloneLaysIb 0 cap w
    change Calls Tryz.prog 76 _ _ _ at h
    exact h.mono fun e w' ⟨h1, h2⟩ => ⟨_, h1, World.ownsRow_nil _ _ _ _, by rw [h2]; exact Below.refl _ _⟩
  · obtain ⟨i0, hi0, hz0, hz1, hz2⟩ := info_parts rowInfo
    have h := AnyE.slices_Clone Tryz.cloneLaysIb i0 _ 2 32 hi0 hz0 hz1 hz2 rfl (by decide) Tryz.sizeOf100 g o l.length cap (cells l) w (cells_len l) (by unfold maxLen; omega) (by omega)
      (fun j u hj => by
        obtain ⟨i, r, hi, h⟩ := cells_inv l j u hj
        have := hcell i r hi
        rcases h with ⟨rfl, rfl⟩ | ⟨rfl, rfl⟩
        · exact this.1
        · exact this.2) (cells_one l)
    change Calls Tryz.prog 76 _ _ _ at h
    exact h.mono fun e w' ⟨v', h1, h2, _, h4⟩ => ⟨v', h1, h2, h4⟩

set_option maxRecDepth 100000 in
set_option maxHeartbeats 1000000 in
theorem of_any (N : Nat) (hN : SortOK N) (w : World) (v : Value) (l : List R) (h : RowsR w v l) (hn : l.length ≤ 1000) (hl : l.length ≤ N) :
    Calls Tryz.prog 49 #[v] w (MadeT w (putAll l)) := by
  have hc := Lib.hid (clone_any w v l h hn)
  have HN := Lib.hid hN
  clear h hN
  go_enter Tryz.func49, Tryz.ntmps49
  go_wp2_with (first
    | (go_at_call 76; refine hc.out.mono ?_; rintro e w1 ⟨v', rfl, hown, hb⟩; have HO := Lib.hid hown; have HB := Lib.hid hb; clear hown hb)
    | (go_at_call 75; refine (gather_own N HN.out lastV 77 #[] _ _ v' l hn hl HO.out (enters_of Tryz.func77 (by kernel_rfl) rfl) (fun a b W _ => last_any a b W)).mono ?_; rintro e w2 ⟨tb, d, rfl, hst, htab, hk⟩))
  have hp := gath_last l d hst
  have HP := Lib.hid hp
  have HT := Lib.hid htab
  have HK := Lib.hid hk
  clear hp hst htab hk
  go_wp2
  go_ret
  refine ⟨tb, rfl, ?_, ?_⟩
  · have := HT.out
    rw [HP.out] at this
    obtain ⟨h1, v, h2, h3⟩ := this
    have := HB.out.size
    exact ⟨by omega, v, h2, Go.Joins.ownsRow_le h3 (by omega)⟩
  · exact HB.out.trans (HK.out.below HB.out.size (fun k hk => by omega))
end Go.Proofs.YtjijgoflbjbnfaaGreat.Tb.Ib

namespace Go.Proofs.YtjijgoflbjbnfaaGreat.Jo
open Go.RowKit Go.Shelf Fr Sr
attribute [local go_sem] Oper.semAt_some

abbrev klog : ByteArray := { data := #[108, 111, 103] }
/-- A new table. -/
theorem of_nil (w : World) : Calls Tryz.prog 49 #[.slice none 0 0] w fun e w' => ∃ t sv, e = .returned (.pointer (some ⟨t, 0, none⟩)) ∧ (Tb.Ib.TabV w.heap.size w' t sv []) ∧ Below w.heap.size w w' := by
  refine (Tb.Ib.of_any 19 Tb.Ib.sortOK_small w _ [] (Tb.Ib.RowsR.nil w) (by decide) (by decide)).mono ?_
  rintro e w' ⟨t, rfl, ⟨h1, sv, h2, h3⟩, hb⟩
  exact ⟨t, sv, rfl, ⟨h1, h2, h3⟩, hb⟩
theorem kc_alloc {w0 w : World} {o : Obj} (h : ∀ b i, b < w0.heap.size → w.cell? ⟨b, i, none⟩ = w0.cell? ⟨b, i, none⟩) (hs : w0.heap.size ≤ w.heap.size) : ∀ b i, b < w0.heap.size → (w.alloc o).cell? ⟨b, i, none⟩ = w0.cell? ⟨b, i, none⟩ := fun b i hb =>
  (((Below.refl w.heap.size w).alloc (Nat.le_refl _) o).cell (p := ⟨b, i, none⟩) (Nat.lt_of_lt_of_le hb hs)).trans (h b i hb)
theorem kc_set {w0 w : World} {r : Nat} {u : Value} (h : ∀ b i, b < w0.heap.size → w.cell? ⟨b, i, none⟩ = w0.cell? ⟨b, i, none⟩) (hs : w0.heap.size ≤ r) : ∀ b i, b < w0.heap.size → (w.setCell ⟨r, 0, none⟩ u).cell? ⟨b, i, none⟩ = w0.cell? ⟨b, i, none⟩ := fun b i hb => by
  have h2 : (w.setCell ⟨r, 0, none⟩ u).heap[b]? = w.heap[b]? := Below.heap_setCell _ _ _ _ (by show b ≠ r; omega)
  have h3 := h b i hb
  simp only [World.cell?] at h3 ⊢
  rw [h2]; exact h3
theorem kept_ptr {w0 w1 : World} (h : Below (w0.alloc (.cells #[.pointer none] 59)).drew.heap.size (w0.alloc (.cells #[.pointer none] 59)).drew w1) : (w1.cell? ⟨w0.heap.size, 0, none⟩ = some (.pointer none) ∧ w1.frozen? ⟨w0.heap.size, 0, none⟩ = false) ∧ (∀ o, (w1.alloc o).cell? ⟨w0.heap.size, 0, none⟩ = some (.pointer none) ∧ (w1.alloc o).frozen? ⟨w0.heap.size, 0, none⟩ = false) ∧ w1.heap[w0.heap.size]? = some (.cells #[.pointer none] 59 (0, 0)) := by
  have h1 := block_kept (W := (w0.alloc (.cells #[.pointer none] 59)).drew) (show (w0.alloc (.cells #[.pointer none] 59)).heap[w0.heap.size]? = _ from block_new w0 (.cells #[.pointer none] 59)) h
  exact ⟨block_cell h1, fun o => block_cell (block_old h1 o), h1⟩
theorem tab_c {w0 w : World} {o : Obj} {u : Value} {t : Nat} {sv : Value} {xs : List Xr} (h : Tb.Ib.TabV (w0.alloc o).drew.heap.size w t sv xs) : Tb.Ib.TabV w0.heap.size (w.setCell ⟨w0.heap.size, 0, none⟩ u) t sv xs := by
  have hz : (w0.alloc o).drew.heap.size = w0.heap.size + 1 := by show (w0.alloc o).heap.size = _; simp
  have h1 := h.1
  have hk : Tb.Kept (fun i => i = w0.heap.size) w (w.setCell ⟨w0.heap.size, 0, none⟩ u) := kept_of_off (Off.of_grown (grownBy_set _ _ _) fun i e => (Option.some.inj e).symm)
  have h2 := h.kept hk (by omega) (fun g hg e => by have := (h.2.2.lt g hg).1; omega)
  exact ⟨by omega, h2.2.1, Go.Joins.ownsRow_le h2.2.2 (by omega)⟩
/-- A new journal, ahead of the file's records. -/
structure OS (w : World) (p : Nat) (st : S) (mb : Option Nat) (L : List Fi) (j t bj : Nat) (sv : Value) (wx : World) : Prop where
  js : JSt wx p st mb L j t true 0 sv [] []
  jb : Boxed wx bj 59 (.pointer (some ⟨j, 0, none⟩))
  db : wx.heap[w.heap.size]? = some (.cells #[.pointer (some ⟨p, 0, none⟩), .bool true] 91 (0, 0))
  bel : Below w.heap.size w wx
  lo : ∀ i, own p mb L i → i < w.heap.size
  ho : ∀ i, oj j t sv i → w.heap.size ≤ i
  hbj : w.heap.size ≤ bj
theorem ostart {w W0 wx : World} {p j t bj : Nat} {st : S} {mb : Option Nat} {L : List Fi} {sv : Value} (hal : Below w.heap.size w W0) (hst : StR W0 p st mb L) (hlo : ∀ i, own p mb L i → i < w.heap.size) (hdb : W0.heap[w.heap.size]? = some (.cells #[.pointer (some ⟨p, 0, none⟩), .bool true] 91 (0, 0))) (hb : Below W0.heap.size W0 wx) (hj : wx.heap[j]? = some (.cells #[.pointer (some ⟨p, 0, none⟩), .bool true, .pointer (some ⟨t, 0, none⟩), .int .i64 0] 95 (0, 0))) (hbj : Boxed wx bj 59 (.pointer (some ⟨j, 0, none⟩))) (ht : Tb.Ib.TabV W0.heap.size wx t sv []) (hj1 : W0.heap.size ≤ j) (hj2 : W0.heap.size ≤ bj) : OS w p st mb L j t bj sv wx := by
  have h1 := hal.size
  have hho : ∀ i, oj j t sv i → W0.heap.size ≤ i := fun i hi => by
    rcases hi with rfl | rfl | hi
    · exact hj1
    · exact ht.1
    · exact (ht.2.2.lt i hi).1
  refine ⟨⟨hst.below hb, ⟨hj, ⟨Nat.zero_le _, ht.2.1, Go.Joins.ownsRow_le ht.2.2 (Nat.zero_le _)⟩, ⟨rfl, fun i x r hx => (by simp at hx)⟩, List.Pairwise.nil, fun x hx => (by cases hx), by simp, by omega⟩, fun i hi ho => ?_⟩, hbj, block_kept hdb hb, hal.trans (hb.mono h1), hlo, fun i hi => Nat.le_trans h1 (hho i hi), Nat.le_trans h1 hj2⟩
  have := hlo i hi; have := hho i ho; omega
theorem mo_cell {w w' : World} {p : Nat} {mb : Option Nat} {L L' : List Fi} {s' : S} {b i : Nat} {v : Value} (h : Mo w w' p mb L s' L') (hc : w.cell? ⟨b, i, none⟩ = some v) (hb : ¬ own p mb L b) : w'.cell? ⟨b, i, none⟩ = some v := by
  obtain ⟨_, _, mv, _⟩ := h
  have h1 := mv.off.2 b (World.block_lt_of_cell? _ _ hc) hb
  simp only [World.cell?] at hc ⊢
  rw [h1]; exact hc
abbrev seen3 (s : List Rc × Value × List Xr) : List Rc := s.1
/-- What Open leaves. -/
def Opened (w w' : World) (p : Nat) (mb : Option Nat) (L : List Fi) (s2 : S) (L2 : List Fi) (nx : Nat) (rs : List Re) (e : Ending) : Prop :=
  ∃ j t sv xs mb' L', e = .returned (.tuple #[.pointer (some ⟨j, 0, none⟩), .int .i64 0]) ∧ JSt w' p s2 mb' L' j t true nx sv xs rs ∧ Sr.Alike L2 L' ∧ Off (own p mb L) w w' ∧ (∀ i, own p mb' L' i → own p mb L i ∨ w.heap.size ≤ i) ∧ ∀ i, oj j t sv i → w.heap.size ≤ i
theorem open_fin {w W w5 : World} {p j t wb bj bd D : Nat} {st s2 : S} {mb : Option Nat} {L L2 : List Fi} {pre : List Rc} {sv1 : Value} {xs1 : List Xr} (h : OI w p st mb L j t wb bj bd (pre, sv1, xs1) W) (hm : Mo W w5 p mb L s2 L2) (hD : W.heap[D]? = some (.deferred (some []))) (hl : w.heap.size ≤ D) :
    w5.heap[D]? = some (.deferred (some [])) ∧ ∀ o, Opened w (w5.putObj D o) p mb L s2 L2 (nxt pre) (recs pre) (.returned (.tuple #[.pointer (some ⟨j, 0, none⟩), .int .i64 0])) := by
  obtain ⟨mb', L', mv, al⟩ := hm
  have hDW : D < W.heap.size := (Array.getElem?_eq_some_iff.1 hD).1
  have h5 : w5.heap[D]? = some (.deferred (some [])) := (mv.off.2 D hDW (fun hi => by have := h.lo D hi; omega)).trans hD
  refine ⟨h5, fun o => ?_⟩
  have js5 := h.js.store mv
  have ho : Off (fun i => i = D) w5 (w5.putObj D o) := Off.of_grown (grownBy_putObj' w5 D o) fun i e => (Option.some.inj e).symm
  have js6 := js5.out ho (fun i hi e => by
      rcases mv.new i hi with h1 | h1
      · have := h.lo i h1; omega
      · omega) (fun i hi e => by
      obtain ⟨cs, ty, fr, h1, _⟩ := js5.jr.oj_obj hi
      rw [e, h5] at h1
      cases h1) (fun i hi ob hob => by
      rw [hi, h5] at hob
      cases hob
      exact .inl rfl)
  refine ⟨j, t, sv1, xs1, mb', L', rfl, js6, al, ⟨(h.bel.mono (Nat.zero_le _)).trans (mv.off.1.trans ho.1), fun i hi hn => ?_⟩, fun i hi => (mv.new i hi).imp id (fun h1 => Nat.le_trans h.bel.size h1), h.ho⟩
  have hiW : i < W.heap.size := Nat.lt_of_lt_of_le hi h.bel.size
  exact (ho.2 i (Nat.lt_of_lt_of_le hiW mv.off.1.size) (by omega)).trans ((mv.off.2 i hiW hn).trans (h.bel.block i hi))
set_option maxRecDepth 100000 in
set_option maxHeartbeats 8000000 in
theorem open_ok {w : World} {p : Nat} {st : S} {mb : Option Nat} {L : List Fi} (h : StR w p st mb L) (hd : st.d = false) (hlen : (bytL L klog).length ≤ 800) (hbok : bok (bytL L klog)) (hE : whole (cnt (bytL L klog)) < (bytL L klog).length → cutE st L klog (whole (cnt (bytL L klog)) : Int) = 0) :
    Calls Tryz.prog 26 #[.pointer (some ⟨p, 0, none⟩)] w fun e w' => Opened w w' p mb L (if whole (cnt (bytL L klog)) < (bytL L klog).length then cutS st L klog (whole (cnt (bytL L klog)) : Int) else st) (if whole (cnt (bytL L klog)) < (bytL L klog).length then cutL st L klog (whole (cnt (bytL L klog)) : Int) else L) (nxt (cnt (bytL L klog))) (recs (cnt (bytL L klog))) e := by
  obtain ⟨lg, hlg⟩ : ∃ lg, lg = bytL L klog := ⟨_, rfl⟩
  rw [← hlg] at hlen hbok hE ⊢
  obtain ⟨s2, hs2⟩ : ∃ s2, s2 = (if whole (cnt lg) < lg.length then cutS st L klog (whole (cnt lg) : Int) else st) := ⟨_, rfl⟩
  obtain ⟨L2, hL2⟩ : ∃ L2, L2 = (if whole (cnt lg) < lg.length then cutL st L klog (whole (cnt lg) : Int) else L) := ⟨_, rfl⟩
  rw [← hs2, ← hL2]
  have HS2 := Lib.hid hs2
  have HL2 := Lib.hid hL2
  clear hs2 hL2
  have HLG := Lib.hid hlg
  have HBO := Lib.hid hbok
  have HE := Lib.hid hE
  clear hlg hbok hE
  obtain ⟨W0, hW0⟩ : ∃ W0, W0 = w.alloc (.cells #[.pointer (some ⟨p, 0, none⟩), .bool true] 91) := ⟨_, rfl⟩
  have hal : Below w.heap.size w W0 := by rw [hW0]; exact alloc_below _ _
  have hst := h.below hal
  have hdb : W0.heap[w.heap.size]? = some (.cells #[.pointer (some ⟨p, 0, none⟩), .bool true] 91 (0, 0)) := by rw [hW0]; exact block_new _ _
  have hdn := down_own W0 p st mb hst.blk
  rw [hd] at hdn
  have HDN := Lib.hid hdn
  obtain ⟨⟨d0, d1⟩, _⟩ := block_cell2 hdb
  have HOF := Lib.hid (of_nil W0.drew)
  have HW0 := Lib.hid hW0
  have HAL := Lib.hid hal
  have HST := Lib.hid hst
  have HDB := Lib.hid hdb
  have HLO : Hid (∀ i, own p mb L i → i < w.heap.size) := fun i hi => own_lt h hi
  have hdl : w.heap.size < W0.heap.size := by rw [hW0]; simp
  clear h hd hW0 hal hst hdb hdn
  refine (callsIn_wide (n := 16)).1 ?_
  refine callsIn_of_wp_marks Tryz.func26 rfl trivial ?_ rfl
  simp only [Tryz.ntmps26, List.size_toArray, List.length_cons, List.length_nil, Nat.reduceAdd, Nat.reduceSub, Array.replicate_succ, Array.replicate_zero, List.push_toArray, List.append_toArray, List.nil_append, List.cons_append]
  refine wpIn_wide.2 ?_
  go_upto_region 2 with fail
  rw [← HW0.out]
  go_upto_region 4 with (go_at_call 48; (with_reducible refine HDN.out.mono ?_); rintro e w' ⟨rfl, rfl⟩)
  go_cut [5] from 17 to 20 (fun s5 wx => ∃ (j t bj : Nat) (sv : Value), s5 = .pointer (some ⟨bj, 0, none⟩) ∧ Hid (OS w p st mb L j t bj sv wx))
  case first =>
    have kc0 : ∀ b i, b < W0.heap.size → W0.drew.cell? ⟨b, i, none⟩ = W0.cell? ⟨b, i, none⟩ := fun _ _ _ => rfl
    go_region_held3 (fun w' => ∀ b i, b < W0.heap.size → w'.cell? ⟨b, i, none⟩ = W0.cell? ⟨b, i, none⟩)
      (first | (exact kc0) | (exact kc_alloc kc0 (Nat.le_refl _)) | (exact kc1) | (exact kc_alloc kc1 hs1) | (exact kc_alloc (kc_alloc kc1 hs1) (by simp; omega)) | (exact kc_set (kc_alloc kc1 hs1) (Nat.le_refl _)))
      (first | (go_at_call 49; refine (of_nil _).mono ?_; rintro e w1 ⟨t, sv, rfl, ht, hb1⟩
                have hbl : Below W0.heap.size W0 w1 := (by first | exact ((Below.refl _ _).drew).trans hb1 | exact (((Below.refl _ _).alloc (Nat.le_refl _) _).drew).trans (hb1.mono (by simp)))
                have kc1 : ∀ b i, b < W0.heap.size → w1.cell? ⟨b, i, none⟩ = W0.cell? ⟨b, i, none⟩ := fun b i hb => hbl.cell (p := ⟨b, i, none⟩) hb
                have hs1 := hbl.size
                have HT := Lib.hid ht
                have HB1 := Lib.hid hb1
                have HBL := Lib.hid hbl
                clear ht hbl
                try (have kk := kept_ptr (w0 := W0) hb1; have kb := kk.1.1; have kf := kk.1.2; have kb2 := (kk.2.1 (.cells #[.pointer (some ⟨p, 0, none⟩), .bool true, .pointer (some ⟨t, 0, none⟩), .int .i64 0] 95)).1; have kf2 := (kk.2.1 (.cells #[.pointer (some ⟨p, 0, none⟩), .bool true, .pointer (some ⟨t, 0, none⟩), .int .i64 0] 95)).2; have kh := Lib.hid kk.2.2; clear kk)
                clear hb1))
    · go_wp2
      go_meet
      have q1 : Below w1.heap.size w1 ((w1.alloc (.cells #[.pointer (some ⟨p, 0, none⟩), .bool true, .pointer (some ⟨t, 0, none⟩), .int .i64 0] 95)).alloc (.cells #[.pointer (some ⟨w1.heap.size, 0, none⟩)] 59)) := ((Below.refl _ _).alloc (Nat.le_refl _) _).alloc (by simp) _
      have q2 := block_new (w1.alloc (.cells #[.pointer (some ⟨p, 0, none⟩), .bool true, .pointer (some ⟨t, 0, none⟩), .int .i64 0] 95)) (.cells #[.pointer (some ⟨w1.heap.size, 0, none⟩)] 59)
      rw [World.size_alloc] at q2
      exact ⟨_, t, _, sv, rfl, ostart HAL.out HST.out HLO.out HDB.out (HBL.out.trans (q1.mono HBL.out.size)) (block_old (block_new w1 _) _) q2 (HT.out.below q1) HBL.out.size (by have := HBL.out.size; omega)⟩
    · go_wp2
      go_meet
      have q1 : Below w1.heap.size w1 ((w1.alloc (.cells #[.pointer (some ⟨w1.heap.size + 1, 0, none⟩)] 59)).alloc (.cells #[.pointer (some ⟨p, 0, none⟩), .bool true, .pointer (some ⟨t, 0, none⟩), .int .i64 0] 95)) := ((Below.refl _ _).alloc (Nat.le_refl _) _).alloc (by simp) _
      have q2 := block_new (w1.alloc (.cells #[.pointer (some ⟨w1.heap.size + 1, 0, none⟩)] 59)) (.cells #[.pointer (some ⟨p, 0, none⟩), .bool true, .pointer (some ⟨t, 0, none⟩), .int .i64 0] 95)
      rw [World.size_alloc] at q2
      exact ⟨_, t, _, sv, rfl, ostart HAL.out HST.out HLO.out HDB.out (HBL.out.trans (q1.mono HBL.out.size)) q2 (block_old (block_new w1 _) _) (HT.out.below q1) (by have := HBL.out.size; omega) HBL.out.size⟩
    · go_wp2
      go_meet
      have hsz : W0.heap.size < w1.heap.size := (Array.getElem?_eq_some_iff.1 kh.out).1
      have q1 : Below w1.heap.size w1 (w1.alloc (.cells #[.pointer (some ⟨p, 0, none⟩), .bool true, .pointer (some ⟨t, 0, none⟩), .int .i64 0] 95)) := alloc_below _ _
      exact ⟨_, t, _, sv, rfl, ostart HAL.out HST.out HLO.out HDB.out ((HBL.out.trans (q1.mono HBL.out.size)).setCell (p := ⟨W0.heap.size, 0, none⟩) (Nat.le_refl _) _) (block_set (block_new w1 _) (by show w1.heap.size ≠ W0.heap.size; omega) _) (block_put (block_old kh.out _) _) (tab_c (HT.out.below q1)) HBL.out.size (Nat.le_refl _)⟩
  case rest =>
    obtain ⟨j, t, bj, sv, rfl, hos⟩ := hcut
    have HOS := Lib.hid hos.out
    have hrd := read_any wc p st mb L klog HOS.out.js.st
    rw [← HLG.out] at hrd
    have HRD := Lib.hid hrd
    obtain ⟨⟨p0, _⟩, _⟩ := block_cell2 HOS.out.db
    clear hrd hos d0 d1 HDN HOF HDB HST
    go_upto_region 6 with (go_at_call 25; (with_reducible refine HRD.out.mono ?_); rintro e w2 ⟨A2, n2, c2, rfl, hn2, ho2, hb2⟩; have HN2 := Lib.hid hn2; have HO2 := Lib.hid ho2; have HB2 := Lib.hid hb2; clear hn2 ho2 hb2)
    obtain ⟨wb, hwb⟩ : ∃ wb, wb = w2.heap.size := ⟨_, rfl⟩
    go_wp2_with (go_at_call 50; (with_reducible refine (counting_any _ _ _ _).mono ?_); rintro e w' ⟨rfl, rfl⟩)
    refine (wpIn_wide (n := 16)).1 ?_
    obtain ⟨W3, hW3⟩ : ∃ W3, W3 = (w2.alloc (.cells #[.int .i64 0] 3)).alloc (.cells #[.slice A2 n2 c2] 32) := ⟨_, rfl⟩
    have h23 : Below w2.heap.size w2 W3 := by rw [hW3]; exact ((Below.refl _ _).alloc (Nat.le_refl _) _).alloc (by simp) _
    have hc3 : Below wc.heap.size wc W3 := HB2.out.trans (h23.mono HB2.out.size)
    have b1 : Boxed W3 w2.heap.size 3 (.int .i64 (0 : Int)) := by rw [hW3]; exact (Boxed.new w2 _ _).alloc _
    have b2 : W3.heap[w2.heap.size + 1]? = some (.cells #[.slice A2 n2 c2] 32 (0, 0)) := by
      rw [hW3]
      have := block_new (w2.alloc (.cells #[.int .i64 0] 3)) (.cells #[.slice A2 n2 c2] 32)
      rwa [World.size_alloc] at this
    have hsz : W3.heap.size = w2.heap.size + 1 + 1 := by rw [hW3]; simp
    rw [← hW3]
    have HLG2 := Lib.hid hlen
    have hn2 : n2 = lg.length := HN2.out
    have hn8 : n2 ≤ 800 := by omega
    clear hn2
    have hba : BAt W3 (.slice A2 n2 c2) lg := by
      have := BAt.of_own HO2.out
      exact this.kept h23
    have hI0 : OI w p st mb L j t w2.heap.size bj w.heap.size ([], sv, []) W3 := by
      have h1 := HOS.out.js.below hc3
      have hb3 := block_kept HOS.out.jb hc3
      have hd3 := block_kept HOS.out.db hc3
      refine ⟨h1, b1, hb3, hd3, HOS.out.bel.trans (hc3.mono HOS.out.bel.size), HLO.out, HOS.out.ho, fun i hi => ?_, ?_⟩
      · rcases hi with rfl | rfl | rfl
        · exact notoj h1.jr b1 (by decide)
        · exact notoj h1.jr hb3 (by decide)
        · exact notoj h1.jr hd3 (by decide)
      · have := HOS.out.bel.size; have := HB2.out.size; omega
    have hw3 : w.heap.size ≤ W3.heap.size := hI0.bel.size
    have hseq := counting1_g (16 - 1) (by decide) seen3 (OK p mb L j t w2.heap.size) (w2.heap.size + 1) W3 A2 n2 c2 lg b2 hba HBO.out (by omega)
    refine' range_gb (β := List Rc × Value × List Xr) (C := fun _ => True) (E := EInt) (key := ckey) (R := cR) (R2 := cR2) (S := cnt lg) (seen := seen3) (K := OK p mb L j t w2.heap.size) (fun (x : Rc) (y : Ty) => .agg #[.int .i64 (x.2.1 : Int), .slice y.1 y.2.1 y.2.2]) (fun h => cR_y h) (fun h => cR2_put h) rfl (by decide) (gf := 78) (lb := #[.pointer (some ⟨w2.heap.size + 1, 0, none⟩)]) rfl trivial (enters_of Tryz.func78 (by kernel_rfl) rfl)
      (B := w.heap.size) hw3 hseq rfl
      (OI w p st mb L j t w2.heap.size bj w.heap.size) (fun _ _ _ => False) (OI.from hw3) (fun _ _ _ _ _ h _ _ => h) (fun s W' h => h.keeps) (fun D o1 o2 _ _ hD => cons_int (OI.int (by omega) (by omega))) ([], sv, []) rfl hI0 trivial (fun (x : Rc) (y : Ty) => .cells #[.int .i64 (x.2.1 : Int), .slice y.1 y.2.1 y.2.2] 100) _ ?assign ?body ?done ?stop
    case assign =>
      intro l x y W b K hb hK
      have HBB := Lib.hid hb
      clear hb
      gi_wp2
      rw [HBB.out]
      exact hK
    case stop =>
      rintro D c s r W _ _ h _
      exact h.elim
    case body =>
      rintro l2 ⟨pre, sv1, xs1⟩ ⟨e, n, bs⟩ ⟨A, k, c⟩ W hI ⟨hat, hbk⟩ ⟨r, hr⟩
      have hal := alloc_below W (.cells #[.int .i64 (n : Int), .slice A k c] 100)
      have hI1 := hI.below hal
      have hrow := block_new W (.cells #[.int .i64 (n : Int), .slice A k c] 100)
      have hmem : ((e, n, bs) : Rc) ∈ cnt lg := by rw [hr]; simp
      have hn : n ≤ 4611686018427387903 := cntF_mem _ _ _ hmem
      have hr2 : cnt lg = pre ++ ((e, n, bs) : Rc) :: r := hr
      have hpl : pre.length < 800 := by
        have h1 := cnt_len lg
        have h2 := HLG2.out
        rw [hr2, List.length_append, List.length_cons] at h1
        omega
      have hxl : xs1.length = pre.length := by
        have h1 : xs1.length = (recs pre).length := hI.js.jr.vals.1
        rw [h1]; simp [recs]
      have hnx : (pre = [] ∨ n = nxt pre) ∧ nxt pre ≤ n + 1 := by
        by_cases hp : pre = []
        · exact ⟨.inl hp, by rw [hp]; exact Nat.zero_le _⟩
        · have h1 : n = nxt pre := cnt_next hr2 hp
          exact ⟨.inr h1, by omega⟩
      have hlt : ∀ x ∈ xs1, x.1 < (n : Int) := fun x hx => by
        rcases hnx.1 with h1 | h1
        · rw [h1] at hxl
          rw [List.length_eq_zero_iff.1 hxl] at hx
          cases hx
        · rw [h1]; exact hI.js.jr.lt x hx
      obtain ⟨W1, hW1⟩ : ∃ W1, W1 = W.alloc (.cells #[.int .i64 (n : Int), .slice A k c] 100) := ⟨_, rfl⟩
      have HP := Lib.hid (jput_any (w := W1) (by rw [hW1]; exact hI1.js) hlt hnx.2 hn (by omega) (by rw [hW1]; exact hat.kept hal) (fun hp a n c ha => (hbk hp a n c ha).1))
      have HI := Lib.hid hI
      have HAL2 : Hid (Below W.heap.size W W1) := by show Below _ _ _; rw [hW1]; exact hal
      have j0 : W1.cell? ⟨bj, 0, none⟩ = some (.pointer (some ⟨j, 0, none⟩)) := by rw [hW1]; exact hI1.jb.cell
      obtain ⟨⟨r0, r1⟩, _⟩ := block_cell2 (w := W1) (b := W.heap.size) (x := .int .i64 (n : Int)) (y := .slice A k c) (t := 100) (by rw [hW1]; exact hrow)
      dsimp only [ckey]
      rw [← hW1]
      clear hI hI1 hat hbk hr hr2 hmem hpl hxl hnx hlt hal hrow hW1
      gi_wp2_with (refine ⟨trivial, ?_⟩; gi_at_call 51; refine (CallsIn.inRound l2 (callsIn_wide.2 HP.out)).mono ?_; rintro e5 w5 ⟨rfl, hp⟩
                   have hst := OI.step (e := e) HI.out HAL2.out hp
                   have k1 := hst.2.cell
                   have k2 := hst.2.frozen
                   have HSTP := Lib.hid hst.1
                   clear hp hst)
      exact HSTP.out
    case done =>
      rintro D s W hD hs hI hK
      obtain ⟨pre, sv1, xs1⟩ := s
      have hpre : pre = cnt lg := hs
      subst hpre
      have x0 := hI.wh.cell
      have x1 := hI.jb.cell
      have x2 : W.cell? ⟨w.heap.size, 0, none⟩ = some (.pointer (some ⟨p, 0, none⟩)) := (block_cell2 hI.db).1.1
      have HI := Lib.hid hI
      have HK := Lib.hid hK
      have HD := Lib.hid hD
      obtain ⟨wn, hwn⟩ : ∃ wn, wn = whole (cnt lg) := ⟨_, rfl⟩
      have x0' : W.cell? ⟨w2.heap.size, 0, none⟩ = some (.int .i64 (wn : Int)) := by rw [hwn]; exact x0
      have HWN := Lib.hid hwn
      clear x0 hI hK hs hD hwn hI0 hseq hba b1 b2 h23 hc3
      by_cases hlt : wn < n2
      · have hq : (wn : Int) < (n2 : Int) := by omega
        have hcut := Cut_any klog (wn : Int) HI.out.js.st
        have he0 : cutE st L klog (wn : Int) = 0 := by rw [HWN.out]; exact HE.out (by rw [← HWN.out, ← HN2.out]; exact hlt)
        rw [he0] at hcut
        have HC := Lib.hid hcut
        clear hcut he0
        go_wp2_with (go_at_call 52; (with_reducible refine HC.out.mono ?_); rintro e w5 ⟨rfl, hm⟩
                     have x5 : w5.cell? ⟨bj, 0, none⟩ = some (.pointer (some ⟨j, 0, none⟩)) := mo_cell hm x1 (fun hi => by have := HLO.out _ hi; have := HOS.out.hbj; omega)
                     have HM := Lib.hid hm
                     clear hm)
        have hs2 : s2 = cutS st L klog (wn : Int) := by rw [HS2.out, ← HWN.out, if_pos (by rw [← HN2.out]; exact hlt)]
        have hl2 : L2 = cutL st L klog (wn : Int) := by rw [HL2.out, ← HWN.out, if_pos (by rw [← HN2.out]; exact hlt)]
        obtain ⟨hd5, hop⟩ := open_fin HI.out (show Mo W w5 p mb L s2 L2 from by rw [hs2, hl2]; exact HM.out) HK.out (by have := HD.out; omega)
        refine ⟨by simp, .inl ⟨_, _, rfl, run_takeDeferred hd5, ?_⟩⟩
        exact ⟨_, results_tmp2 rfl _ _ _, hop _⟩
      · have hq : ¬ (wn : Int) < (n2 : Int) := by omega
        have hs2 : s2 = st := by rw [HS2.out, ← HWN.out, if_neg (by rw [← HN2.out]; exact hlt)]
        have hl2 : L2 = L := by rw [HL2.out, ← HWN.out, if_neg (by rw [← HN2.out]; exact hlt)]
        obtain ⟨hd5, hop⟩ := open_fin HI.out (show Mo W W p mb L s2 L2 from by rw [hs2, hl2]; exact ⟨mb, L, Mv.refl HI.out.js.st, Sr.Alike.refl _⟩) HK.out (by have := HD.out; omega)
        have HD5 := Lib.hid hd5
        have HOP := Lib.hid hop
        clear hs2 hl2 hd5 hop
        go_wp2
        refine ⟨by simp, .inl ⟨_, _, rfl, run_takeDeferred HD5.out, ?_⟩⟩
        exact ⟨_, results_tmp2 rfl _ _ _, HOP.out _⟩
end Go.Proofs.YtjijgoflbjbnfaaGreat.Jo
