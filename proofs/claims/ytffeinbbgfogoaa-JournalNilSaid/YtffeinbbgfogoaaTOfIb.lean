/-
  The contract of Of: the table of the rows put one behind the other. Conditions: the sort's contract up to N rows, at most a thousand rows.
-/
import Derived.Test.YtffeinbbgfogoaaTGathIb
import Derived.Test.YtffeinbbgfogoaaTLays
namespace Go.Proofs.Ytffeinbbgfogoaa.Tb.Ib
open Go.RowKit Go.Sort

/-- A new table. -/
def MadeT (w : World) (rs : List R) (e : Ending) (w' : World) : Prop := ∃ tb, e = .returned (.pointer (some ⟨tb, 0, none⟩)) ∧ TabO w.heap.size w' tb rs ∧ Below w.heap.size w w'
/-- The sort keeps its contract up to N rows. -/
def SortOK (N : Nat) : Prop := ∀ (w : World) (g off cap : Nat) (l : List R), HoldsK enc 2 w g off l.toArray → g < w.heap.size → l.length ≤ N →
  Calls Try.prog 102 #[.slice (some ⟨g, off, none⟩) l.length cap, .func (.func 103) #[] #[]] w fun e w' => e = .returned (.tuple #[]) ∧ Sorted w g off l w'
theorem sortOK_small : SortOK 19 := fun w g off cap l h hg hn => sort_small w g off cap l h hg (by omega)

theorem holds_own {w : World} {base g cap : Nat} {l : List R} (h : w.ownsRow base 107 2 (.slice (some ⟨g, 0, none⟩) l.length cap) l.length (cells l)) : HoldsK enc 2 w g 0 l.toArray :=
  holdsK_of w g 0 l fun i r hi => by
    have hlt : i < l.length := (List.getElem?_eq_some_iff.1 hi).1
    have hc := cells_get l i r hi
    rw [Nat.zero_add]
    exact ⟨⟨(h.cellAt _ (by omega)).trans hc.1, (h.cellAt _ (by omega)).trans hc.2⟩, h.frozenAt _, h.frozenAt _⟩
/-- What the sort leaves reads as the sorted rows. -/
theorem sortedR_of {w w' : World} {g cap : Nat} {l : List R} {S : Nat → Prop} (hS : S g) (hg : g < w.heap.size) (hH : HoldsK enc 2 w g 0 l.toArray) (hc : l.length ≤ cap) (h : Sorted w g 0 l w') : SortedR S w (.slice (some ⟨g, 0, none⟩) l.length cap) l w' := by
  obtain ⟨d, hd, hst, hsw⟩ := h
  have hk := kept_of_swk hsw
  have hh := hsw.holds hg hH (by rw [hd]; simp)
  have hl : d.toList.length = l.length := by simpa using hd
  refine ⟨d.toList, hst, hl, ⟨some ⟨g, 0, none⟩, cap, by rw [hl], by rw [hl]; exact hc, fun e => (by cases e), .inr ⟨g, 0, rfl, Nat.lt_of_lt_of_le hg hk.size, fun i r hi => cells_of_holds hh i r hi⟩⟩, hk.mono fun k _ e => by rw [e]; exact hS⟩
/-- The sort of a row of one's own. -/
theorem sort_own (N : Nat) (hN : SortOK N) (w : World) (base : Nat) (v : Value) (l : List R) (h : w.ownsRow base 107 2 v l.length (cells l)) (hl : l.length ≤ N) :
    Calls Try.prog 102 #[v, .func (.func 103) #[] #[]] w fun e w' => e = .returned (.tuple #[]) ∧ SortedR (fun k => base ≤ k) w v l w' := by
  rcases h.2 with ⟨rfl, h0⟩ | ⟨g, cap, cur, rfl, hg, hh, hc, _⟩
  · have : l = [] := List.length_eq_zero_iff.1 h0
    subst this
    exact (sort_none none 0 _ w).mono fun e w' ⟨h1, h2⟩ => ⟨h1, [], ⟨List.Pairwise.nil, fun _ => rfl⟩, rfl, by rw [← h2]; exact RowsR.nil w, by rw [← h2]; exact Kept.refl _ _⟩
  · have hgl : g < w.heap.size := (Array.getElem?_eq_some_iff.1 hh).1
    exact (hN w g 0 cap l (holds_own h) hgl hl).mono fun e w' ⟨h1, h2⟩ => ⟨h1, sortedR_of hg hgl (holds_own h) hc h2⟩

set_option maxRecDepth 100000 in
theorem last_any (a b : V) (w : World) : Calls Try.prog 85 #[ev a, ev b] w fun e w' => e = .returned (ev (lastV a b)) ∧ w = w' := by
  unfold ev lastV
  go_enter Try.func85, Try.ntmps85
  go_wp2
  go_ret
  exact ⟨rfl, rfl⟩

/-- gather over a row of one's own. -/
theorem gather_own (N : Nat) (hN : SortOK N) (j : V → V → V) (jf : Nat) (cb : Array Value) (w : World) (base : Nat) (v : Value) (l : List R) (hn : l.length ≤ 1000) (hl : l.length ≤ N) (h : w.ownsRow base 107 2 v l.length (cells l))
    (eg : ∀ args w, (callFunc jf args).run Try.prog w = .ok (.enter jf args) w)
    (hj : ∀ a b W, Kept (fun k => base ≤ k) w W → Calls Try.prog jf (#[ev a, ev b] ++ cb) W fun e w' => e = .returned (ev (j a b)) ∧ W = w') :
    Calls Try.prog 83 #[v, .func (.func jf) #[] cb] w (Gathered (fun k => base ≤ k) j w l) := by
  have hs := sort_own N hN w base v l h hl
  rcases Go.Joins.ownsRow_forms h with ⟨rfl, h0⟩ | ⟨g, cap, rfl⟩
  · rw [show Value.slice none 0 0 = .slice none l.length 0 by rw [h0]] at hs ⊢
    exact gather_any _ j jf cb w none 0 l hn eg hj hs
  · exact gather_any _ j jf cb w _ cap l hn eg hj hs

set_option maxRecDepth 100000 in
theorem clone_any (w : World) (v : Value) (l : List R) (h : RowsR w v l) (hn : l.length ≤ 1000) :
    Calls Try.prog 84 #[v] w fun e w' => ∃ v', e = .returned v' ∧ w'.ownsRow w.heap.size 107 2 v' l.length (cells l) ∧ Below w.heap.size w w' := by
  obtain ⟨A, cap, rfl, hc, hA, h3⟩ := h
  rcases h3 with ⟨rfl, rfl⟩ | ⟨g, o, rfl, hg, hcell⟩
  · have h := AnyE.slices_Clone_nil Try.cloneLaysIb 0 cap w
    change Calls Try.prog 84 _ _ _ at h
    exact h.mono fun e w' ⟨h1, h2⟩ => ⟨_, h1, World.ownsRow_nil _ _ _ _, by rw [h2]; exact Below.refl _ _⟩
  · obtain ⟨i0, hi0, hz0, hz1, hz2⟩ := info_parts rowInfo
    have h := AnyE.slices_Clone Try.cloneLaysIb i0 _ 2 32 hi0 hz0 hz1 hz2 rfl (by decide) Try.sizeOf107 g o l.length cap (cells l) w (cells_len l) (by unfold maxLen; omega) (by omega)
      (fun j u hj => by
        obtain ⟨i, r, hi, h⟩ := cells_inv l j u hj
        have := hcell i r hi
        rcases h with ⟨rfl, rfl⟩ | ⟨rfl, rfl⟩
        · exact this.1
        · exact this.2) (cells_one l)
    change Calls Try.prog 84 _ _ _ at h
    exact h.mono fun e w' ⟨v', h1, h2, _, h4⟩ => ⟨v', h1, h2, h4⟩

set_option maxRecDepth 100000 in
set_option maxHeartbeats 1000000 in
theorem of_any (N : Nat) (hN : SortOK N) (w : World) (v : Value) (l : List R) (h : RowsR w v l) (hn : l.length ≤ 1000) (hl : l.length ≤ N) :
    Calls Try.prog 66 #[v] w (MadeT w (putAll l)) := by
  have hc := Lib.hid (clone_any w v l h hn)
  have HN := Lib.hid hN
  clear h hN
  go_enter Try.func66, Try.ntmps66
  go_wp2_with (first
    | (go_at_call 84; refine hc.out.mono ?_; rintro e w1 ⟨v', rfl, hown, hb⟩; have HO := Lib.hid hown; have HB := Lib.hid hb; clear hown hb)
    | (go_at_call 83; refine (gather_own N HN.out lastV 85 #[] _ _ v' l hn hl HO.out (enters_of Try.func85 (by kernel_rfl) rfl) (fun a b W _ => last_any a b W)).mono ?_; rintro e w2 ⟨tb, d, rfl, hst, htab, hk⟩))
  have hp := gath_last l d hst
  have HP := Lib.hid hp
  have HT := Lib.hid htab
  have HK := Lib.hid hk
  clear hp hst htab hk
  go_wp2
  go_ret
  refine ⟨tb, rfl, ?_, ?_⟩
  · have := HT.out
    rw [HP.out] at this
    obtain ⟨h1, v, h2, h3⟩ := this
    have := HB.out.size
    exact ⟨by omega, v, h2, Go.Joins.ownsRow_le h3 (by omega)⟩
  · exact HB.out.trans (HK.out.below HB.out.size (fun k hk => by omega))
end Go.Proofs.Ytffeinbbgfogoaa.Tb.Ib
