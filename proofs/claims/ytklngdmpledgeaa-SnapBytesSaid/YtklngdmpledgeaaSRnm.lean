/-
  The contract of Rename. Conditions: a store.
-/
import Derived.Test.YtklngdmpledgeaaPB14
namespace Go.Proofs.Ytklngdmpledgeaa.Sr
open Go.RowKit Fr

set_option maxRecDepth 100000 in
set_option maxHeartbeats 1000000 in
theorem rename_bad (w : World) (p : Nat) (s : S) (mb : Option Nat) (L : List Fi) (k tn : ByteArray) (h : StR w p s mb L) (hr : fnd s.d L k [tn, k] ≠ 0) :
    Calls Try.prog 21 #[.pointer (some ⟨p, 0, none⟩), .string k, .string tn] w fun e w' => e = .returned (.int .i64 (fnd s.d L k [tn, k])) ∧ Mv w w' p mb L s mb L := by
  have HR := Lib.hid (find_one w p s mb L k tn h)
  obtain ⟨r, hr2⟩ : ∃ r, r = fnd s.d L k [tn, k] := ⟨_, rfl⟩
  rw [← hr2] at HR hr ⊢
  have hb : (r != 0) = true := by simpa using hr
  have HS := Lib.hid h
  clear h hr hr2
  go_enter Try.func21, Try.ntmps21
  go_wp2_with (go_at_call 71; refine HR.out.mono ?_; rintro e w1 ⟨rfl, hb1⟩; have HB1 := Lib.hid hb1; clear hb1)
  go_ret
  exact ⟨rfl, Mv.of_below HS.out HB1.out⟩

set_option maxRecDepth 100000 in
set_option maxHeartbeats 1000000 in
theorem rename_down (w : World) (p : Nat) (s : S) (mb : Option Nat) (L : List Fi) (k tn : ByteArray) (h : StR w p s mb L) (hr : fnd s.d L k [tn, k] = 0) (hm : useN s 1 = 0) :
    Calls Try.prog 21 #[.pointer (some ⟨p, 0, none⟩), .string k, .string tn] w fun e w' => e = .returned (.int .i64 (dwn (useS s 1))) ∧ Mv w w' p mb L (useS s 1) mb L := by
  have HR := Lib.hid (find_one w p s mb L k tn h)
  rw [hr] at HR
  have HS := Lib.hid h
  have huse : ∀ W, Below w.heap.size w W → Calls Try.prog 61 #[.pointer (some ⟨p, 0, none⟩), .int .i64 1] W fun e w' => e = .returned (.int .i64 0) ∧ Own W w' p (useS s 1) mb := fun W hW => by
    rw [← hm]; exact use_any W p s mb 1 ((h.below hW).blk) (by decide) h.left
  have HUS := Lib.hid huse
  have hkeep := Lib.hid (useS_keeps s 1 (by decide) h.left)
  obtain ⟨s1, hs1⟩ : ∃ s1, s1 = useS s 1 := ⟨_, rfl⟩
  rw [← hs1] at HUS hkeep ⊢
  obtain ⟨d1, hd1⟩ : ∃ d1, d1 = dwn s1 := ⟨_, rfl⟩
  rw [← hd1]
  have hst : ∀ W, W.heap[p]? = some (blk s1 mb) → Calls Try.prog 63 #[.pointer (some ⟨p, 0, none⟩)] W fun e w' => e = .returned (.int .i64 d1) ∧ W = w' := fun W hW => by
    rw [hd1]; exact state_any W p s1 mb hW
  have HST := Lib.hid hst
  clear h hr huse hm hst hs1 hd1
  go_enter Try.func21, Try.ntmps21
  go_wp2_with (first
    | (go_at_call 63; (with_reducible refine (HST.out _ HOW.out.hp).mono ?_); rintro e w3 ⟨rfl, rfl⟩)
    | (go_at_call 61; (with_reducible refine (HUS.out _ HB1.out).mono ?_); rintro e w2 ⟨rfl, how⟩; have HOW := Lib.hid how; clear how)
    | (go_at_call 71; (with_reducible refine HR.out.mono ?_); rintro e w1 ⟨rfl, hb1⟩; have HB1 := Lib.hid hb1; clear hb1))
  go_ret
  exact ⟨rfl, (Mv.of_below HS.out HB1.out).trans (Mv.of_own (HS.out.below HB1.out) HOW.out hkeep.out.1 hkeep.out.2.1 hkeep.out.2.2)⟩

theorem has_some {w : World} {p : Nat} {s : S} {mb : Option Nat} {L : List Fi} {k : ByteArray} (h : StR w p s mb L) (hh : hasL L k = true) : ∃ b, mb = some b := by
  cases mb with
  | some b => exact ⟨b, rfl⟩
  | none =>
    cases (show L = [] from h.map)
    cases hh
theorem StR.norm {w : World} {p : Nat} {s : S} {mb : Option Nat} {L : List Fi} (h : StR w p s mb L) (u : Int) (hu : u = s.used) : StR w p { s with used := u } mb L := by
  subst hu
  exact h
/-- Behind remove and put: the file goes by its new name. -/
theorem ren_step {w w2 w3 : World} {p b : Nat} {s : S} {L : List Fi} {k tn : ByteArray} (h : StR w p s (some b) L) (_hh : hasL L k = true) (h2 : StR w2 p { s with used := s.used - ((bytL L k).length : Int) } (some b) (delL L k)) (ho : Off (fun i => i = p ∨ i = b) w w2)
    (hput : PutTo w2 w3 p { s with used := s.used - ((bytL L k).length : Int) } (some b) (delL L k) tn (valL L k) (bytL L k) (bytL L k).length) :
    ∃ mb', Mv w w3 p (some b) L { s with used := (usedL (putL (delL L k) tn (valL L k, bytL L k)) : Int) } mb' (putL (delL L k) tn (valL L k, bytL L k)) := by
  have hvr : rowOf w2 (valL L k) (bytL L k) := row_kept (val_row h.rows k) fun i hi => by
    obtain ⟨cur, hc⟩ := row_heap (val_row h.rows k) hi
    refine ho.2 i (Array.getElem?_eq_some_iff.1 hc).1 ?_
    rintro (rfl | rfl)
    · rw [h.blk] at hc; cases hc
    · have := h.map
      obtain ⟨es, c, h1, _⟩ := this
      rw [hc] at h1; cases h1
  have hud := used_del L k
  have hle := byt_used (delL L k) tn
  obtain ⟨mb', q1, q2, q3⟩ := put_gen h2 hvr (fun x hx _ i hi => apart_val h.apart ((mem_del h.keys x).1 hx).1 ((mem_del h.keys x).1 hx).2 hi) (by
    have := h.room
    show _ ≤ s.room
    omega) hput
  have hu3 := q1.used
  refine ⟨mb', ?_, (ho.mono fun i e => e.elim (fun e => .inl e) (fun e => .inr (.inl (by rw [e])))).trans q2 (fun i e => .inl (e.elim (fun e => .inl e) (fun e => .inr (.inl e)))), fun i hi => ?_⟩
  · exact q1.norm _ hu3.symm
  · rcases q3 i hi with h1 | h1 | h1
    · rcases h1 with h1 | h1 | ⟨x, hx, h1⟩
      · exact .inl (.inl h1)
      · exact .inl (.inr (.inl h1))
      · exact .inl (.inr (.inr ⟨x, ((mem_del h.keys x).1 hx).1, h1⟩))
    · obtain ⟨x, hx, _, h2⟩ := val_own h1
      exact .inl (.inr (.inr ⟨x, hx, h2⟩))
    · exact .inr (Nat.le_trans ho.1.size h1)

set_option maxRecDepth 100000 in
set_option maxHeartbeats 2000000 in
theorem rename_put (w : World) (p : Nat) (s : S) (mb : Option Nat) (L : List Fi) (k tn : ByteArray) (h : StR w p s mb L) (hr : fnd s.d L k [tn, k] = 0) (hm : useN s 1 = 1) (hh : hasL L k = true) (ht : tn.size ≤ 12) :
    Calls Try.prog 21 #[.pointer (some ⟨p, 0, none⟩), .string k, .string tn] w fun e w' => e = .returned (.int .i64 (dwn (useS s 1))) ∧ ∃ mb', Mv w w' p mb L { useS s 1 with used := (usedL (putL (delL L k) tn (valL L k, bytL L k)) : Int) } mb' (putL (delL L k) tn (valL L k, bytL L k)) := by
  obtain ⟨b, rfl⟩ := has_some h hh
  have HR := Lib.hid (find_one w p s (some b) L k tn h)
  rw [hr] at HR
  have HS := Lib.hid h
  have huse : ∀ W, Below w.heap.size w W → Calls Try.prog 61 #[.pointer (some ⟨p, 0, none⟩), .int .i64 1] W fun e w' => e = .returned (.int .i64 1) ∧ Own W w' p (useS s 1) (some b) := fun W hW => by
    rw [← hm]; have := use_any W p s (some b) 1 ((h.below hW).blk) (by decide) h.left; rw [hm] at this ⊢; exact this
  have HUS := Lib.hid huse
  have hkeep := Lib.hid (useS_keeps s 1 (by decide) h.left)
  obtain ⟨s1, hs1⟩ : ∃ s1, s1 = useS s 1 := ⟨_, rfl⟩
  rw [← hs1] at HUS hkeep ⊢
  obtain ⟨d1, hd1⟩ : ∃ d1, d1 = dwn s1 := ⟨_, rfl⟩
  rw [← hd1]
  have hst : ∀ W mb' u, W.heap[p]? = some (blk { s1 with used := u } mb') → Calls Try.prog 63 #[.pointer (some ⟨p, 0, none⟩)] W fun e w' => e = .returned (.int .i64 d1) ∧ W = w' := fun W mb' u hW => by
    rw [hd1]; exact state_any W p { s1 with used := u } mb' hW
  have HST := Lib.hid hst
  obtain ⟨A0, n0, cc, hval, hn0⟩ : ∃ A0 n0 cc, valL L k = .slice A0 n0 cc ∧ n0 = (bytL L k).length := by
    obtain ⟨A0, cc, e, _⟩ := BAt.of_own (val_row h.rows k); exact ⟨A0, _, cc, e, rfl⟩
  have hroom := h.room
  have hle := byt_used L k
  have hud := used_del L k
  have hused := h.used
  have hput : ∀ W, StR W p { s1 with used := s1.used - ((bytL L k).length : Int) } (some b) (delL L k) → Calls Try.prog 62 #[.pointer (some ⟨p, 0, none⟩), .string tn, .slice A0 n0 cc] W fun e w' => e = .returned (.tuple #[]) ∧ PutTo W w' p { s1 with used := s1.used - ((bytL L k).length : Int) } (some b) (delL L k) tn (valL L k) (bytL L k) (bytL L k).length := by
    intro W hW
    obtain ⟨A1, c1, e1, _⟩ := BAt.of_own (val_row hW.rows tn)
    have hle2 := byt_used (delL L k) tn
    have := put_any W p (some b) { s1 with used := s1.used - ((bytL L k).length : Int) } (delL L k) tn A0 A1 n0 cc _ c1 (bytL L k) hW.blk hW.map ht e1 rfl (by
      have h1 := hkeep.out.1
      show 0 ≤ s1.used - _ ∧ s1.used - _ ≤ _ ∧ _
      omega)
    rw [hval, ← hn0]
    rw [← hn0] at this
    exact this
  have HPUT := Lib.hid hput
  have hlk : ∀ W, StR W p s1 (some b) L → (Instr.lookup 94 (.map (some b)) (.string k) false).run Try.prog W = .ok (.slice A0 n0 cc) W := fun W h2 => by
    rw [← hval]; exact lookup_run (w := W) h2.map k false
  have HLK := Lib.hid hlk
  clear h hr huse hm hst hs1 hd1 hput hlk hval hn0 hroom hle hud hused
  go_enter Try.func21, Try.ntmps21
  go_wp2_with (first
    | (go_at_call 63; (with_reducible refine (HST.out _ _ _ HMV5.out.st.blk).mono ?_); rintro e w6 ⟨rfl, rfl⟩)
    | (go_at_call 62; (with_reducible refine (HPUT.out _ H4.out.1).mono ?_); rintro e w5 ⟨rfl, hp5⟩
       obtain ⟨mb', hmv5⟩ := ren_step HMV.out.st hh H4.out.1 H4.out.2 hp5
       have HMV5 := Lib.hid hmv5
       clear hp5 hmv5)
    | (go_at_call 72; (with_reducible refine (remove_any w2 p b s1 L k HMV.out.st).mono ?_); rintro e w4 ⟨rfl, h4⟩; have H4 := Lib.hid h4; clear h4)
    | (go_at_call 61; (with_reducible refine (HUS.out _ HB1.out).mono ?_); rintro e w2 ⟨rfl, how⟩
       have HMV : Hid (Mv w w2 p (some b) L s1 (some b) L) := (Mv.of_below HS.out HB1.out).trans (Mv.of_own (HS.out.below HB1.out) how hkeep.out.1 hkeep.out.2.1 hkeep.out.2.2)
       have c5 := (blk_cells HMV.out.st.blk).1.2.2.2.2.2
       have hlk := HLK.out w2 HMV.out.st
       clear how)
    | (go_at_call 71; (with_reducible refine HR.out.mono ?_); rintro e w1 ⟨rfl, hb1⟩; have HB1 := Lib.hid hb1; clear hb1))
  go_ret
  exact ⟨rfl, mb', HMV.out.trans HMV5.out⟩
end Go.Proofs.Ytklngdmpledgeaa.Sr
