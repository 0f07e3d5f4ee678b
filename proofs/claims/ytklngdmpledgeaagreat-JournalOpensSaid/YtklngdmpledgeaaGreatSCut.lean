/-
  The contracts of Cut and drop. Conditions: a store.
-/
import Derived.Test.YtklngdmpledgeaaGreatJZ16
namespace Go.Proofs.YtklngdmpledgeaaGreat.Sr
open Go.RowKit Fr

theorem fnd_of {d : Bool} {L : List Fi} {k : ByteArray} {ns : List ByteArray} (h : fnd d L k ns = 0) : rdy d ns = 0 ∧ hasL L k = true := by
  unfold fnd at h
  by_cases h1 : rdy d ns ≠ 0
  · rw [if_pos h1] at h; exact absurd h h1
  · rw [if_neg h1] at h
    refine ⟨Decidable.not_not.1 h1, ?_⟩
    cases hh : hasL L k with
    | true => rfl
    | false => rw [hh] at h; cases h
set_option maxRecDepth 100000 in
set_option maxHeartbeats 2000000 in
theorem cut_bad (w : World) (p : Nat) (s : S) (mb : Option Nat) (L : List Fi) (k : ByteArray) (x : Int) (h : StR w p s mb L) (hr : fnd s.d L k [k] ≠ 0) :
    Calls Tryz.prog 26 #[.pointer (some ⟨p, 0, none⟩), .string k, .int .i64 x] w fun e w' => e = .returned (.int .i64 (fnd s.d L k [k])) ∧ Mv w w' p mb L s mb L := by
  have HR := Lib.hid (find_none w p s mb L k h)
  obtain ⟨r, hr2⟩ : ∃ r, r = fnd s.d L k [k] := ⟨_, rfl⟩
  rw [← hr2] at HR hr ⊢
  have hb : (r != 0) = true := by simpa using hr
  have HS := Lib.hid h
  clear h hr hr2
  go_enter Tryz.func26, Tryz.ntmps26
  go_wp2_with (go_at_call 50; refine HR.out.mono ?_; rintro e w1 ⟨rfl, hb1⟩; have HB1 := Lib.hid hb1; clear hb1)
  go_ret
  exact ⟨rfl, Mv.of_below HS.out HB1.out⟩
set_option maxRecDepth 100000 in
set_option maxHeartbeats 2000000 in
theorem cut_arg (w : World) (p : Nat) (s : S) (mb : Option Nat) (L : List Fi) (k : ByteArray) (x : Int) (h : StR w p s mb L) (hr : fnd s.d L k [k] = 0) (hx : x < 0 ∨ ((bytL L k).length : Int) < x) :
    Calls Tryz.prog 26 #[.pointer (some ⟨p, 0, none⟩), .string k, .int .i64 x] w fun e w' => e = .returned (.int .i64 1) ∧ Mv w w' p mb L s mb L := by
  have HR := Lib.hid (find_none w p s mb L k h)
  rw [hr] at HR
  have HS := Lib.hid h
  obtain ⟨A0, n0, cc, hval, hn0⟩ : ∃ A0 n0 cc, valL L k = .slice A0 n0 cc ∧ n0 = (bytL L k).length := by
    obtain ⟨A0, cc, e, _⟩ := BAt.of_own (val_row h.rows k); exact ⟨A0, _, cc, e, rfl⟩
  have hlk : ∀ W, StR W p s mb L → (Instr.lookup 47 (.map mb) (.string k) false).run Tryz.prog W = .ok (.slice A0 n0 cc) W := fun W h2 => by
    rw [← hval]; exact lookup_run (w := W) h2.map k false
  have HLK := Lib.hid hlk
  rw [← hn0] at hx
  have e0 : (0 : Int) ≤ (n0 : Int) := by omega
  clear h hr hlk hval hn0
  rcases hx with hx | hx
  · go_enter Tryz.func26, Tryz.ntmps26
    go_wp2_with (go_at_call 50; (with_reducible refine HR.out.mono ?_); rintro e w1 ⟨rfl, hb1⟩; have HB1 := Lib.hid hb1; have c5 := (blk_cells (HS.out.below HB1.out).blk).1.2.2.2.2.2; have hlk := HLK.out w1 (HS.out.below HB1.out); clear hb1)
    go_ret
    exact ⟨rfl, Mv.of_below HS.out HB1.out⟩
  · have hx0 : ¬ x < 0 := by omega
    go_enter Tryz.func26, Tryz.ntmps26
    go_wp2_with (go_at_call 50; (with_reducible refine HR.out.mono ?_); rintro e w1 ⟨rfl, hb1⟩; have HB1 := Lib.hid hb1; have c5 := (blk_cells (HS.out.below HB1.out).blk).1.2.2.2.2.2; have hlk := HLK.out w1 (HS.out.below HB1.out); clear hb1)
    go_ret
    exact ⟨rfl, Mv.of_below HS.out HB1.out⟩
set_option maxRecDepth 100000 in
set_option maxHeartbeats 2000000 in
theorem cut_down (w : World) (p : Nat) (s : S) (mb : Option Nat) (L : List Fi) (k : ByteArray) (x : Int) (h : StR w p s mb L) (hr : fnd s.d L k [k] = 0) (hx : 0 ≤ x ∧ x ≤ ((bytL L k).length : Int)) (hm : useN s 1 = 0) :
    Calls Tryz.prog 26 #[.pointer (some ⟨p, 0, none⟩), .string k, .int .i64 x] w fun e w' => e = .returned (.int .i64 (dwn (useS s 1))) ∧ Mv w w' p mb L (useS s 1) mb L := by
  have HR := Lib.hid (find_none w p s (mb) L k h)
  rw [hr] at HR
  have HS := Lib.hid h
  have huse : ∀ W, Below w.heap.size w W → Calls Tryz.prog 16 #[.pointer (some ⟨p, 0, none⟩), .int .i64 1] W fun e w' => e = .returned (.int .i64 0) ∧ Own W w' p (useS s 1) (mb) := fun W hW => by
    have := use_any W p s (mb) 1 ((h.below hW).blk) (by decide) h.left
    rw [hm] at this; exact this
  have HUS := Lib.hid huse
  have hkeep := Lib.hid (useS_keeps s 1 (by decide) h.left)
  obtain ⟨s1, hs1⟩ : ∃ s1, s1 = useS s 1 := ⟨_, rfl⟩
  rw [← hs1] at HUS hkeep ⊢
  obtain ⟨d1, hd1⟩ : ∃ d1, d1 = dwn s1 := ⟨_, rfl⟩
  rw [← hd1]
  have hst : ∀ W, W.heap[p]? = some (blk s1 mb) → Calls Tryz.prog 19 #[.pointer (some ⟨p, 0, none⟩)] W fun e w' => e = .returned (.int .i64 d1) ∧ W = w' := fun W hW => by
    rw [hd1]; exact state_any W p s1 mb hW
  have HST := Lib.hid hst
  obtain ⟨A0, n0, cc, hval, hn0⟩ : ∃ A0 n0 cc, valL L k = .slice A0 n0 cc ∧ n0 = (bytL L k).length := by
    obtain ⟨A0, cc, e, _⟩ := BAt.of_own (val_row h.rows k); exact ⟨A0, _, cc, e, rfl⟩
  have hlk : ∀ W, StR W p s mb L → (Instr.lookup 47 (.map mb) (.string k) false).run Tryz.prog W = .ok (.slice A0 n0 cc) W := fun W h2 => by
    rw [← hval]; exact lookup_run (w := W) h2.map k false
  have HLK := Lib.hid hlk
  rw [← hn0] at hx
  have e0 : (0 : Int) ≤ (n0 : Int) := by omega
  have x0 : ¬ x < 0 := by omega
  have x1 : ¬ (n0 : Int) < x := by omega
  clear h hr huse hm hst hs1 hd1 hlk hval hn0 hx
  go_enter Tryz.func26, Tryz.ntmps26
  go_wp2_with (first
    | (go_at_call 19; (with_reducible refine (HST.out _ HOW.out.hp).mono ?_); rintro e w3 ⟨rfl, rfl⟩)
    | (go_at_call 16; (with_reducible refine (HUS.out _ HB1.out).mono ?_); rintro e w2 ⟨rfl, how⟩; have HOW := Lib.hid how; clear how)
    | (go_at_call 50; (with_reducible refine HR.out.mono ?_); rintro e w1 ⟨rfl, hb1⟩; have HB1 := Lib.hid hb1; have c5 := (blk_cells (HS.out.below HB1.out).blk).1.2.2.2.2.2; have hlk := HLK.out w1 (HS.out.below HB1.out); clear hb1))
  go_ret
  exact ⟨rfl, (Mv.of_below HS.out HB1.out).trans (Mv.of_own (HS.out.below HB1.out) HOW.out hkeep.out.1 hkeep.out.2.1 hkeep.out.2.2)⟩
set_option maxRecDepth 100000 in
set_option maxHeartbeats 2000000 in
theorem cut_put (w : World) (p : Nat) (s : S) (mb : Option Nat) (L : List Fi) (k : ByteArray) (x : Int) (m : Nat) (h : StR w p s mb L) (hr : fnd s.d L k [k] = 0) (hx : x = (m : Int)) (hxm : m ≤ (bytL L k).length) (hm : useN s 1 = 1) :
    Calls Tryz.prog 26 #[.pointer (some ⟨p, 0, none⟩), .string k, .int .i64 x] w fun e w' => e = .returned (.int .i64 (dwn (useS s 1))) ∧ ∃ mb' v', Mv w w' p mb L { useS s 1 with used := s.used + ((m : Int) - ((bytL L k).length : Int)) } mb' (putL L k (v', (bytL L k).take m)) := by
  subst hx
  have hks := (okN_of (fnd_of hr).1).2
  have HR := Lib.hid (find_none w p s (mb) L k h)
  rw [hr] at HR
  have HS := Lib.hid h
  have huse : ∀ W, Below w.heap.size w W → Calls Tryz.prog 16 #[.pointer (some ⟨p, 0, none⟩), .int .i64 1] W fun e w' => e = .returned (.int .i64 1) ∧ Own W w' p (useS s 1) (mb) := fun W hW => by
    have := use_any W p s (mb) 1 ((h.below hW).blk) (by decide) h.left
    rw [hm] at this; exact this
  have HUS := Lib.hid huse
  have hkeep := Lib.hid (useS_keeps s 1 (by decide) h.left)
  obtain ⟨s1, hs1⟩ : ∃ s1, s1 = useS s 1 := ⟨_, rfl⟩
  rw [← hs1] at HUS hkeep ⊢
  obtain ⟨d1, hd1⟩ : ∃ d1, d1 = dwn s1 := ⟨_, rfl⟩
  rw [← hd1]
  have hst : ∀ W mb' u, W.heap[p]? = some (blk { s1 with used := u } mb') → Calls Tryz.prog 19 #[.pointer (some ⟨p, 0, none⟩)] W fun e w' => e = .returned (.int .i64 d1) ∧ W = w' := fun W mb' u hW => by
    rw [hd1]; exact state_any W p { s1 with used := u } mb' hW
  have HST := Lib.hid hst
  obtain ⟨A0, n0, cc, hval, hn0⟩ : ∃ A0 n0 cc, valL L k = .slice A0 n0 cc ∧ n0 = (bytL L k).length := by
    obtain ⟨A0, cc, e, _⟩ := BAt.of_own (val_row h.rows k); exact ⟨A0, _, cc, e, rfl⟩
  have hlk : ∀ W, StR W p s mb L → (Instr.lookup 47 (.map mb) (.string k) false).run Tryz.prog W = .ok (.slice A0 n0 cc) W := fun W h2 => by
    rw [← hval]; exact lookup_run (w := W) h2.map k false
  have HLK := Lib.hid hlk
  have HVAL := Lib.hid hval
  have HN0 := Lib.hid hn0
  have hroom := h.room
  have hused := h.used
  have hle := byt_used L k
  have hcap : n0 ≤ cc := by
    have := BAt.of_own (val_row h.rows k)
    rw [hval] at this
    exact this.len.2
  have hmn : m ≤ n0 := by omega
  have hsl : ∀ W : World, (Instr.slice 22 (.slice A0 n0 cc) none (some (.int .i64 (m : Int))) none).run Tryz.prog W = .ok (.slice A0 m cc) W := slice_to A0 n0 cc m (by omega)
  have hmin : ((bytL L k).take m).length = m := by rw [List.length_take]; omega
  have HMN := Lib.hid hmn
  have HMIN := Lib.hid hmin
  have e0 : (0 : Int) ≤ (n0 : Int) := by omega
  have x0 : ¬ (m : Int) < 0 := by omega
  have x1 : ¬ n0 < m := by omega
  have hroomN : Hid (((usedL L : Int) - (bytL L k).length + ((bytL L k).take m).length) ≤ s.room) := by
    show _ ≤ _
    rw [hmin]; omega
  have hused0 : Hid (0 ≤ s.used ∧ s.used ≤ 4000000 ∧ n0 ≤ 4000000 ∧ m ≤ 4000000) := by
    show _ ∧ _
    omega
  have hstep : ∀ w2 w3 w5 A4 c4, StR w2 p s1 mb L → Below w2.heap.size w2 w3 → w3.ownsRow w2.heap.size 5 1 (.slice A4 m c4) ((bytL L k).take m).length (bv ((bytL L k).take m)) → PutTo w3 w5 p s1 mb L k (.slice A4 m c4) ((bytL L k).take m) m →
      ∃ mb' v', Mv w2 w5 p mb L { s1 with used := s.used + ((m : Int) - ((bytL L k).length : Int)) } mb' (putL L k (v', (bytL L k).take m)) := by
    intro w2 w3 w5 A4 c4 h2 hb3 ho hp
    have h3 := h2.below hb3
    have hp2 : PutTo w3 w5 p s1 mb L k (.slice A4 m c4) ((bytL L k).take m) ((bytL L k).take m).length := by rw [hmin]; exact hp
    obtain ⟨mb', v', hmv⟩ := put_step (w2 := w3) h2 (Off.of_below _ hb3) h3.blk h3.map (fun x hx _ => h3.rows x hx) (row_zero ho) (fun i hi => .inr (ho.lt i hi).1) rfl rfl h2.left (by rw [hkeep.out.2.1]; exact hroomN.out) hp2
    refine ⟨mb', v', ?_⟩
    rw [hmin, hkeep.out.1] at hmv; exact hmv
  have HSTEP := Lib.hid hstep
  have hcl : ∀ W, StR W p s1 mb L → Calls Tryz.prog 18 #[.slice A0 m cc] W fun e w' => ∃ v', e = .returned v' ∧ w'.ownsRow W.heap.size 5 1 v' ((bytL L k).take m).length (bv ((bytL L k).take m)) ∧ Below W.heap.size W w' := fun W hW => by
    have h9 := BAt.of_own (val_row hW.rows k)
    rw [hval] at h9
    exact clone_any W (.slice A0 m cc) ((bytL L k).take m) (h9.take m hmn).1 (by rw [hmin]; omega)
  have HCL := Lib.hid hcl
  have hput : ∀ w2 w3 A4 c4, StR w2 p s1 mb L → Below w2.heap.size w2 w3 → Calls Tryz.prog 17 #[.pointer (some ⟨p, 0, none⟩), .string k, .slice A4 m c4] w3 fun e w' => e = .returned (.tuple #[]) ∧ PutTo w3 w' p s1 mb L k (.slice A4 m c4) ((bytL L k).take m) m := by
    intro w2 w3 A4 c4 h2 hb
    have h3 := h2.below hb
    refine put_any w3 p mb s1 L k A4 A0 m c4 n0 cc ((bytL L k).take m) h3.blk h3.map hks HVAL.out HN0.out ?_
    rw [hkeep.out.1]; exact hused0.out
  have HPUT := Lib.hid hput
  clear h hr huse hm hst hs1 hd1 hstep hmn hcap hmin hval hn0 hroom hused hle hcl hput hxm hlk
  go_enter Tryz.func26, Tryz.ntmps26
  go_wp2_with (first
    | (go_at_call 19; (with_reducible refine (HST.out _ _ _ HMV5.out.st.blk).mono ?_); rintro e w6 ⟨rfl, rfl⟩)
    | (go_at_call 17; (with_reducible refine (HPUT.out _ _ _ _ HMV.out.st HB3.out).mono ?_); rintro e w5 ⟨rfl, hp5⟩
       obtain ⟨mb', v', hmv5⟩ := HSTEP.out w2 w3 w5 A4 c4 HMV.out.st HB3.out HO3.out hp5
       have HMV5 := Lib.hid hmv5
       clear hp5 hmv5)
    | (go_at_call 18; (with_reducible refine (HCL.out _ HMV.out.st).mono ?_); rintro e w3 ⟨v3, rfl, ho3, hb3⟩
       obtain ⟨A4, c4, hv4, _⟩ := BAt.of_own ho3
       rw [HMIN.out] at hv4
       subst hv4
       have HO3 := Lib.hid ho3
       have HB3 := Lib.hid hb3
       clear ho3 hb3)
    | (go_at_call 16; (with_reducible refine (HUS.out _ HB1.out).mono ?_); rintro e w2 ⟨rfl, how⟩
       have HMV : Hid (Mv w w2 p mb L s1 mb L) := (Mv.of_below HS.out HB1.out).trans (Mv.of_own (HS.out.below HB1.out) how hkeep.out.1 hkeep.out.2.1 hkeep.out.2.2)
       clear how)
    | (go_at_call 50; (with_reducible refine HR.out.mono ?_); rintro e w1 ⟨rfl, hb1⟩; have HB1 := Lib.hid hb1; have c5 := (blk_cells (HS.out.below HB1.out).blk).1.2.2.2.2.2; have hlk := HLK.out w1 (HS.out.below HB1.out); clear hb1))
  go_ret
  exact ⟨rfl, mb', v', HMV.out.trans HMV5.out⟩
end Go.Proofs.YtklngdmpledgeaaGreat.Sr
