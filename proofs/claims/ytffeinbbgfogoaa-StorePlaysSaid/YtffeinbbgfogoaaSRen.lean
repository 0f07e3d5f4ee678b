/-
  The contracts of find, with one other name. Conditions: a store.
-/
import Derived.Test.YtffeinbbgfogoaaSRem
namespace Go.Proofs.Ytffeinbbgfogoaa.Sr
open Go.RowKit Fr

theorem strInf : (Try.prog.info? 9).map (fun i => (i.zero, i.size, i.bytes)) = some (some (.string ByteArray.empty), 1, 16) := by kernel_rfl
def sv (l : List ByteArray) : List Value := l.map Value.string
theorem nrow_own {w : World} {base : Nat} {v : Value} {ns : List ByteArray} (h : w.ownsRow base 9 1 v ns.length (sv ns)) (hn : 0 < ns.length) : ∃ g c, v = .slice (some ⟨g, 0, none⟩) ns.length c ∧ NRow w g ns := by
  rcases id h.2 with ⟨_, h2⟩ | ⟨g, cap, cur, rfl, _, hg, _⟩
  · omega
  · refine ⟨g, cap, rfl, (Array.getElem?_eq_some_iff.1 hg).1, fun j hj => ?_⟩
    rw [h.cellAt j (by simpa using hj)]
    simp [sv, List.getD, List.getElem?_eq_getElem hj]
/-- What find tells. -/
def fnd (d : Bool) (L : List Fi) (k : ByteArray) (ns : List ByteArray) : Int := if rdy d ns ≠ 0 then rdy d ns else if hasL L k = true then 0 else 13

set_option maxRecDepth 100000 in
set_option maxHeartbeats 2000000 in
theorem find_one (w : World) (p : Nat) (s : S) (mb : Option Nat) (L : List Fi) (k tn : ByteArray) (h : StR w p s mb L) :
    Calls Try.prog 57 #[.pointer (some ⟨p, 0, none⟩), .string k, .slice (some ⟨w.heap.size, 0, none⟩) 1 1] (w.alloc (.cells #[.string tn] 9)) fun e w' => e = .returned (.int .i64 (fnd s.d L k [tn, k])) ∧ Below w.heap.size w w' := by
  obtain ⟨i0, hi0, hz0, hz1, hz2⟩ := info_parts strInf
  have h1 : StR (w.alloc (.cells #[.string tn] 9)) p s mb L := h.below ((Below.refl _ _).alloc (Nat.le_refl _) _)
  have ho := World.ownsRow_lit (e := 9) (size := 1) (base := w.heap.size) w #[.string tn] 1 (Nat.le_refl _) (by decide) rfl
  have hb1 : Below w.heap.size w (w.alloc (.cells #[.string tn] 9)) := (Below.refl _ _).alloc (Nat.le_refl _) _
  have hs1 : (w.alloc (.cells #[.string tn] 9)).heap.size = w.heap.size + 1 := by simp
  generalize w.alloc (.cells #[.string tn] 9) = W at h1 ho hb1 hs1 ⊢
  generalize hg0 : w.heap.size = g0 at ho hs1 ⊢
  have HS := Lib.hid h1
  have HB := Lib.hid hb1
  have HG := Lib.hid hg0
  have hrd : ∀ W1 g c, StR W1 p s mb L → NRow W1 g [tn, k] → Calls Try.prog 46 #[.pointer (some ⟨p, 0, none⟩), .slice (some ⟨g, 0, none⟩) 2 c] W1 fun e w' => e = .returned (.int .i64 (rdy s.d [tn, k])) ∧ Below W1.heap.size W1 w' := fun W1 g c h2 h3 => ready_any W1 p s mb g c [tn, k] h2.blk h3 (by simp)
  have HRD := Lib.hid hrd
  have hlk : ∀ W1, StR W1 p s mb L → (Instr.lookup 79 (.map mb) (.string k) true).run Try.prog W1 = .ok (.tuple #[valL L k, .bool (hasL L k)]) W1 := fun W1 h2 => by
    have := lookup_run (w := W1) h2.map k true
    rw [if_pos rfl] at this; exact this
  have HLK := Lib.hid hlk
  obtain ⟨r, hr⟩ : ∃ r, r = rdy s.d [tn, k] := ⟨_, rfl⟩
  obtain ⟨hh, hhh⟩ : ∃ hh, hh = hasL L k := ⟨_, rfl⟩
  have HF : Hid (fnd s.d L k [tn, k] = if r ≠ 0 then r else if hh = true then 0 else 13) := by
    show _ = _
    rw [hr, hhh]; rfl
  rw [← hr] at HRD
  rw [← hhh] at HLK
  have HS1 := Lib.hid hs1
  have hown : ∀ i, own p mb L i → i < g0 := fun i hi => by rw [← hg0]; exact own_lt h hi
  have HOWN := Lib.hid hown
  clear h hrd hlk h1 hb1 hr hhh hg0 hs1 hown
  have HO := Lib.hid ho
  clear ho
  by_cases hr0 : r = 0
  · have HR0 := Lib.hid hr0
    subst hr0
    have HF2 : Hid (fnd s.d L k [tn, k] = if hh = true then 0 else 13) := by
      show _ = _
      rw [HF.out, if_neg (by decide)]
    clear HF
    cases hh
    · go_enter Try.func57, Try.ntmps57
      go_wp2_with (first
        | (at_builtin; refine wpList_append_own _ rfl _ _ 54 rfl g0 9 i0 _ 1 16 Try.underlying54 hi0 hz0 hz1 hz2 rfl (by decide) _ _ _ rfl (HO.out.alloc _) ⟨W.heap.size, 0, none⟩ 1 1 [.string k] rfl rfl (World.news_of_block (cs := #[.string k]) (t := 9) (fr := (0, 0)) (heap_alloc_new _ _)) (by simp [Value.oneCell']) (by decide) (by decide) (by have := HS1.out; simp; omega) ?_; intro v1 w1 hown1 hgrow1 hnil1
           obtain ⟨g1, c1, hv1, hn1⟩ := nrow_own (ns := [tn, k]) hown1 (Nat.succ_pos _)
           have hv1 : v1 = .slice (some ⟨g1, 0, none⟩) 2 c1 := hv1
           subst hv1
           have hs1 : StR w1 p s mb L := (HS.out.below ((Below.refl _ _).alloc (Nat.le_refl _) _)).kept (T := fun i => i = g0) (Off.of_grown hgrow1 (fun i e => (Option.some.inj e).symm)) (fun i hi e => by have := HOWN.out i hi; omega)
           have HW1 := Lib.hid hs1
           have HN1 := Lib.hid hn1
           have HB1 : Hid (Below g0 w w1) := (((HB.out.mono (Nat.le_of_eq HG.out.symm)).alloc (by have := HS1.out; omega) _).grown hgrow1 (by have := HS1.out; simp; omega) (fun i e => Nat.le_of_eq (Option.some.inj e)))
           clear hown1 hgrow1 hnil1 hn1 hs1)
        | (go_at_call 46; (with_reducible refine (HRD.out w1 g1 c1 HW1.out HN1.out).mono ?_); rintro e3 w3 ⟨rfl, hb3⟩
           have HB3 : Hid (Below g0 w w3) := HB1.out.trans (hb3.mono (by have := HB1.out.size; have := HG.out; omega))
           have c5 := (blk_cells (HW1.out.below hb3).blk).1.2.2.2.2.2
           have hlk := HLK.out w3 (HW1.out.below hb3)
           clear hb3))
      go_ret
      exact ⟨ret_int HF2.out.symm, HB3.out⟩
    · go_enter Try.func57, Try.ntmps57
      go_wp2_with (first
        | (at_builtin; refine wpList_append_own _ rfl _ _ 54 rfl g0 9 i0 _ 1 16 Try.underlying54 hi0 hz0 hz1 hz2 rfl (by decide) _ _ _ rfl (HO.out.alloc _) ⟨W.heap.size, 0, none⟩ 1 1 [.string k] rfl rfl (World.news_of_block (cs := #[.string k]) (t := 9) (fr := (0, 0)) (heap_alloc_new _ _)) (by simp [Value.oneCell']) (by decide) (by decide) (by have := HS1.out; simp; omega) ?_; intro v1 w1 hown1 hgrow1 hnil1
           obtain ⟨g1, c1, hv1, hn1⟩ := nrow_own (ns := [tn, k]) hown1 (Nat.succ_pos _)
           have hv1 : v1 = .slice (some ⟨g1, 0, none⟩) 2 c1 := hv1
           subst hv1
           have hs1 : StR w1 p s mb L := (HS.out.below ((Below.refl _ _).alloc (Nat.le_refl _) _)).kept (T := fun i => i = g0) (Off.of_grown hgrow1 (fun i e => (Option.some.inj e).symm)) (fun i hi e => by have := HOWN.out i hi; omega)
           have HW1 := Lib.hid hs1
           have HN1 := Lib.hid hn1
           have HB1 : Hid (Below g0 w w1) := (((HB.out.mono (Nat.le_of_eq HG.out.symm)).alloc (by have := HS1.out; omega) _).grown hgrow1 (by have := HS1.out; simp; omega) (fun i e => Nat.le_of_eq (Option.some.inj e)))
           clear hown1 hgrow1 hnil1 hn1 hs1)
        | (go_at_call 46; (with_reducible refine (HRD.out w1 g1 c1 HW1.out HN1.out).mono ?_); rintro e3 w3 ⟨rfl, hb3⟩
           have HB3 : Hid (Below g0 w w3) := HB1.out.trans (hb3.mono (by have := HB1.out.size; have := HG.out; omega))
           have c5 := (blk_cells (HW1.out.below hb3).blk).1.2.2.2.2.2
           have hlk := HLK.out w3 (HW1.out.below hb3)
           clear hb3))
      go_ret
      exact ⟨ret_int HF2.out.symm, HB3.out⟩
  · have hrb : (r != 0) = true := by simpa using hr0
    have HF2 : Hid (fnd s.d L k [tn, k] = r) := by
      show _ = _
      rw [HF.out, if_pos hr0]
    clear HF
    go_enter Try.func57, Try.ntmps57
    go_wp2_with (first
      | (at_builtin; refine wpList_append_own _ rfl _ _ 54 rfl g0 9 i0 _ 1 16 Try.underlying54 hi0 hz0 hz1 hz2 rfl (by decide) _ _ _ rfl (HO.out.alloc _) ⟨W.heap.size, 0, none⟩ 1 1 [.string k] rfl rfl (World.news_of_block (cs := #[.string k]) (t := 9) (fr := (0, 0)) (heap_alloc_new _ _)) (by simp [Value.oneCell']) (by decide) (by decide) (by have := HS1.out; simp; omega) ?_; intro v1 w1 hown1 hgrow1 hnil1
         obtain ⟨g1, c1, hv1, hn1⟩ := nrow_own (ns := [tn, k]) hown1 (Nat.succ_pos _)
         have hv1 : v1 = .slice (some ⟨g1, 0, none⟩) 2 c1 := hv1
         subst hv1
         have hs1 : StR w1 p s mb L := (HS.out.below ((Below.refl _ _).alloc (Nat.le_refl _) _)).kept (T := fun i => i = g0) (Off.of_grown hgrow1 (fun i e => (Option.some.inj e).symm)) (fun i hi e => by have := HOWN.out i hi; omega)
         have HW1 := Lib.hid hs1
         have HN1 := Lib.hid hn1
         have HB1 : Hid (Below g0 w w1) := (((HB.out.mono (Nat.le_of_eq HG.out.symm)).alloc (by have := HS1.out; omega) _).grown hgrow1 (by have := HS1.out; simp; omega) (fun i e => Nat.le_of_eq (Option.some.inj e)))
         clear hown1 hgrow1 hnil1 hn1 hs1)
      | (go_at_call 46; (with_reducible refine (HRD.out w1 g1 c1 HW1.out HN1.out).mono ?_); rintro e3 w3 ⟨rfl, hb3⟩
         have HB3 : Hid (Below g0 w w3) := HB1.out.trans (hb3.mono (by have := HB1.out.size; have := HG.out; omega))
         have c5 := (blk_cells (HW1.out.below hb3).blk).1.2.2.2.2.2
         have hlk := HLK.out w3 (HW1.out.below hb3)
         clear hb3))
    go_ret
    exact ⟨ret_int HF2.out.symm, HB3.out⟩
end Go.Proofs.Ytffeinbbgfogoaa.Sr
