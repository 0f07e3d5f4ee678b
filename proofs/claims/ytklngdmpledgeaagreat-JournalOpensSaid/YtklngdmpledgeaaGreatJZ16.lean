/-
  The contract of Rename. Conditions: a store.
-/
import Derived.Test.YtklngdmpledgeaaGreatJZ15
namespace Go.Proofs.YtklngdmpledgeaaGreat.Sr
open Go.RowKit Fr

set_option maxRecDepth 100000 in
set_option maxHeartbeats 1000000 in
theorem rename_bad (w : World) (p : Nat) (s : S) (mb : Option Nat) (L : List Fi) (k tn : ByteArray) (h : StR w p s mb L) (hr : fnd s.d L k [tn, k] ≠ 0) :
    Calls Tryz.prog 84 #[.pointer (some ⟨p, 0, none⟩), .string k, .string tn] w fun e w' => e = .returned (.int .i64 (fnd s.d L k [tn, k])) ∧ Mv w w' p mb L s mb L := by
  have HR := Lib.hid (find_one w p s mb L k tn h)
  obtain ⟨r, hr2⟩ : ∃ r, r = fnd s.d L k [tn, k] := ⟨_, rfl⟩
  rw [← hr2] at HR hr ⊢
  have hb : (r != 0) = true := by simpa using hr
  have HS := Lib.hid h
  clear h hr hr2
  go_enter Tryz.func84, Tryz.ntmps84
  go_wp2_with (go_at_call 50; refine HR.out.mono ?_; rintro e w1 ⟨rfl, hb1⟩; have HB1 := Lib.hid hb1; clear hb1)
  go_ret
  exact ⟨rfl, Mv.of_below HS.out HB1.out⟩

set_option maxRecDepth 100000 in
set_option maxHeartbeats 1000000 in
theorem rename_down (w : World) (p : Nat) (s : S) (mb : Option Nat) (L : List Fi) (k tn : ByteArray) (h : StR w p s mb L) (hr : fnd s.d L k [tn, k] = 0) (hm : useN s 1 = 0) :
    Calls Tryz.prog 84 #[.pointer (some ⟨p, 0, none⟩), .string k, .string tn] w fun e w' => e = .returned (.int .i64 (dwn (useS s 1))) ∧ Mv w w' p mb L (useS s 1) mb L := by
  have HR := Lib.hid (find_one w p s mb L k tn h)
  rw [hr] at HR
  have HS := Lib.hid h
  have huse : ∀ W, Below w.heap.size w W → Calls Tryz.prog 16 #[.pointer (some ⟨p, 0, none⟩), .int .i64 1] W fun e w' => e = .returned (.int .i64 0) ∧ Own W w' p (useS s 1) mb := fun W hW => by
    rw [← hm]; exact use_any W p s mb 1 ((h.below hW).blk) (by decide) h.left
  have HUS := Lib.hid huse
  have hkeep := Lib.hid (useS_keeps s 1 (by decide) h.left)
  obtain ⟨s1, hs1⟩ : ∃ s1, s1 = useS s 1 := ⟨_, rfl⟩
  rw [← hs1] at HUS hkeep ⊢
  obtain ⟨d1, hd1⟩ : ∃ d1, d1 = dwn s1 := ⟨_, rfl⟩
  rw [← hd1]
  have hst : ∀ W, W.heap[p]? = some (blk s1 mb) → Calls Tryz.prog 19 #[.pointer (some ⟨p, 0, none⟩)] W fun e w' => e = .returned (.int .i64 d1) ∧ W = w' := fun W hW => by
    rw [hd1]; exact state_any W p s1 mb hW
  have HST := Lib.hid hst
  clear h hr huse hm hst hs1 hd1
  go_enter Tryz.func84, Tryz.ntmps84
  go_wp2_with (first
    | (go_at_call 19; (with_reducible refine (HST.out _ HOW.out.hp).mono ?_); rintro e w3 ⟨rfl, rfl⟩)
    | (go_at_call 16; (with_reducible refine (HUS.out _ HB1.out).mono ?_); rintro e w2 ⟨rfl, how⟩; have HOW := Lib.hid how; clear how)
    | (go_at_call 50; (with_reducible refine HR.out.mono ?_); rintro e w1 ⟨rfl, hb1⟩; have HB1 := Lib.hid hb1; clear hb1))
  go_ret
  exact ⟨rfl, (Mv.of_below HS.out HB1.out).trans (Mv.of_own (HS.out.below HB1.out) HOW.out hkeep.out.1 hkeep.out.2.1 hkeep.out.2.2)⟩

theorem has_some {w : World} {p : Nat} {s : S} {mb : Option Nat} {L : List Fi} {k : ByteArray} (h : StR w p s mb L) (hh : hasL L k = true) : ∃ b, mb = some b := by
  cases mb with
  | some b => exact ⟨b, rfl⟩
  | none =>
    cases (show L = [] from h.map)
    cases hh
theorem StR.norm {w : World} {p : Nat} {s : S} {mb : Option Nat} {L : List Fi} (h : StR w p s mb L) (u : Int) (hu : u = s.used) : StR w p { s with used := u } mb L := by
  subst hu
  exact h
/-- Behind remove and put: the file goes by its new name. -/
theorem ren_step {w w2 w3 : World} {p b : Nat} {s : S} {L : List Fi} {k tn : ByteArray} (h : StR w p s (some b) L) (_hh : hasL L k = true) (h2 : StR w2 p { s with used := s.used - ((bytL L k).length : Int) } (some b) (delL L k)) (ho : Off (fun i => i = p ∨ i = b) w w2)
    (hput : PutTo w2 w3 p { s with used := s.used - ((bytL L k).length : Int) } (some b) (delL L k) tn (valL L k) (bytL L k) (bytL L k).length) :
    ∃ mb', Mv w w3 p (some b) L { s with used := (usedL (putL (delL L k) tn (valL L k, bytL L k)) : Int) } mb' (putL (delL L k) tn (valL L k, bytL L k)) := by
  have hvr : rowOf w2 (valL L k) (bytL L k) := row_kept (val_row h.rows k) fun i hi => by
    obtain ⟨cur, hc⟩ := row_heap (val_row h.rows k) hi
    refine ho.2 i (Array.getElem?_eq_some_iff.1 hc).1 ?_
    rintro (rfl | rfl)
    · rw [h.blk] at hc; cases hc
    · have := h.map
      obtain ⟨es, c, h1, _⟩ := this
      rw [hc] at h1; cases h1
  have hud := used_del L k
  have hle := byt_used (delL L k) tn
  obtain ⟨mb', q1, q2, q3⟩ := put_gen h2 hvr (fun x hx _ i hi => apart_val h.apart ((mem_del h.keys x).1 hx).1 ((mem_del h.keys x).1 hx).2 hi) (by
    have := h.room
    show _ ≤ s.room
    omega) hput
  have hu3 := q1.used
  refine ⟨mb', ?_, (ho.mono fun i e => e.elim (fun e => .inl e) (fun e => .inr (.inl (by rw [e])))).trans q2 (fun i e => .inl (e.elim (fun e => .inl e) (fun e => .inr (.inl e)))), fun i hi => ?_⟩
  · exact q1.norm _ hu3.symm
  · rcases q3 i hi with h1 | h1 | h1
    · rcases h1 with h1 | h1 | ⟨x, hx, h1⟩
      · exact .inl (.inl h1)
      · exact .inl (.inr (.inl h1))
      · exact .inl (.inr (.inr ⟨x, ((mem_del h.keys x).1 hx).1, h1⟩))
    · obtain ⟨x, hx, _, h2⟩ := val_own h1
      exact .inl (.inr (.inr ⟨x, hx, h2⟩))
    · exact .inr (Nat.le_trans ho.1.size h1)

set_option maxRecDepth 100000 in
set_option maxHeartbeats 2000000 in
theorem rename_put (w : World) (p : Nat) (s : S) (mb : Option Nat) (L : List Fi) (k tn : ByteArray) (h : StR w p s mb L) (hr : fnd s.d L k [tn, k] = 0) (hm : useN s 1 = 1) (hh : hasL L k = true) (ht : tn.size ≤ 12) :
    Calls Tryz.prog 84 #[.pointer (some ⟨p, 0, none⟩), .string k, .string tn] w fun e w' => e = .returned (.int .i64 (dwn (useS s 1))) ∧ ∃ mb', Mv w w' p mb L { useS s 1 with used := (usedL (putL (delL L k) tn (valL L k, bytL L k)) : Int) } mb' (putL (delL L k) tn (valL L k, bytL L k)) := by
  obtain ⟨b, rfl⟩ := has_some h hh
  have HR := Lib.hid (find_one w p s (some b) L k tn h)
  rw [hr] at HR
  have HS := Lib.hid h
  have huse : ∀ W, Below w.heap.size w W → Calls Tryz.prog 16 #[.pointer (some ⟨p, 0, none⟩), .int .i64 1] W fun e w' => e = .returned (.int .i64 1) ∧ Own W w' p (useS s 1) (some b) := fun W hW => by
    rw [← hm]; have := use_any W p s (some b) 1 ((h.below hW).blk) (by decide) h.left; rw [hm] at this ⊢; exact this
  have HUS := Lib.hid huse
  have hkeep := Lib.hid (useS_keeps s 1 (by decide) h.left)
  obtain ⟨s1, hs1⟩ : ∃ s1, s1 = useS s 1 := ⟨_, rfl⟩
  rw [← hs1] at HUS hkeep ⊢
  obtain ⟨d1, hd1⟩ : ∃ d1, d1 = dwn s1 := ⟨_, rfl⟩
  rw [← hd1]
  have hst : ∀ W mb' u, W.heap[p]? = some (blk { s1 with used := u } mb') → Calls Tryz.prog 19 #[.pointer (some ⟨p, 0, none⟩)] W fun e w' => e = .returned (.int .i64 d1) ∧ W = w' := fun W mb' u hW => by
    rw [hd1]; exact state_any W p { s1 with used := u } mb' hW
  have HST := Lib.hid hst
  obtain ⟨A0, n0, cc, hval, hn0⟩ : ∃ A0 n0 cc, valL L k = .slice A0 n0 cc ∧ n0 = (bytL L k).length := by
    obtain ⟨A0, cc, e, _⟩ := BAt.of_own (val_row h.rows k); exact ⟨A0, _, cc, e, rfl⟩
  have hroom := h.room
  have hle := byt_used L k
  have hud := used_del L k
  have hused := h.used
  have hput : ∀ W, StR W p { s1 with used := s1.used - ((bytL L k).length : Int) } (some b) (delL L k) → Calls Tryz.prog 17 #[.pointer (some ⟨p, 0, none⟩), .string tn, .slice A0 n0 cc] W fun e w' => e = .returned (.tuple #[]) ∧ PutTo W w' p { s1 with used := s1.used - ((bytL L k).length : Int) } (some b) (delL L k) tn (valL L k) (bytL L k) (bytL L k).length := by
    intro W hW
    obtain ⟨A1, c1, e1, _⟩ := BAt.of_own (val_row hW.rows tn)
    have hle2 := byt_used (delL L k) tn
    have := put_any W p (some b) { s1 with used := s1.used - ((bytL L k).length : Int) } (delL L k) tn A0 A1 n0 cc _ c1 (bytL L k) hW.blk hW.map ht e1 rfl (by
      have h1 := hkeep.out.1
      show 0 ≤ s1.used - _ ∧ s1.used - _ ≤ _ ∧ _
      omega)
    rw [hval, ← hn0]
    rw [← hn0] at this
    exact this
  have HPUT := Lib.hid hput
  have hlk : ∀ W, StR W p s1 (some b) L → (Instr.lookup 47 (.map (some b)) (.string k) false).run Tryz.prog W = .ok (.slice A0 n0 cc) W := fun W h2 => by
    rw [← hval]; exact lookup_run (w := W) h2.map k false
  have HLK := Lib.hid hlk
  clear h hr huse hm hst hs1 hd1 hput hlk hval hn0 hroom hle hud hused
  go_enter Tryz.func84, Tryz.ntmps84
  go_wp2_with (first
    | (go_at_call 19; (with_reducible refine (HST.out _ _ _ HMV5.out.st.blk).mono ?_); rintro e w6 ⟨rfl, rfl⟩)
    | (go_at_call 17; (with_reducible refine (HPUT.out _ H4.out.1).mono ?_); rintro e w5 ⟨rfl, hp5⟩
       obtain ⟨mb', hmv5⟩ := ren_step HMV.out.st hh H4.out.1 H4.out.2 hp5
       have HMV5 := Lib.hid hmv5
       clear hp5 hmv5)
    | (go_at_call 101; (with_reducible refine (remove_any w2 p b s1 L k HMV.out.st).mono ?_); rintro e w4 ⟨rfl, h4⟩; have H4 := Lib.hid h4; clear h4)
    | (go_at_call 16; (with_reducible refine (HUS.out _ HB1.out).mono ?_); rintro e w2 ⟨rfl, how⟩
       have HMV : Hid (Mv w w2 p (some b) L s1 (some b) L) := (Mv.of_below HS.out HB1.out).trans (Mv.of_own (HS.out.below HB1.out) how hkeep.out.1 hkeep.out.2.1 hkeep.out.2.2)
       have c5 := (blk_cells HMV.out.st.blk).1.2.2.2.2.2
       have hlk := HLK.out w2 HMV.out.st
       clear how)
    | (go_at_call 50; (with_reducible refine HR.out.mono ?_); rintro e w1 ⟨rfl, hb1⟩; have HB1 := Lib.hid hb1; clear hb1))
  go_ret
  exact ⟨rfl, mb', HMV.out.trans HMV5.out⟩
end Go.Proofs.YtklngdmpledgeaaGreat.Sr

namespace Go.Proofs.YtklngdmpledgeaaGreat.Sr
open Go.RowKit Fr

theorem nil_blk (w : World) : (w.alloc (blk nilS none)).heap[w.heap.size]? = some (blk nilS none) := block_new _ _
theorem nil_bel (w : World) : Below w.heap.size w (w.alloc (blk nilS none)) := (Below.refl _ _).alloc (Nat.le_refl _) _

set_option maxRecDepth 100000 in
theorem nil_down (w : World) : Calls Tryz.prog 22 #[.pointer none] w fun e w' => e = .returned (.bool true) ∧ Below w.heap.size w w' := by
  have HO := Lib.hid (orDown_nil w)
  have hs : Calls Tryz.prog 19 #[.pointer (some ⟨w.heap.size, 0, none⟩)] (w.alloc (blk nilS none)) fun e w' => e = .returned (.int .i64 14) ∧ w.alloc (blk nilS none) = w' := state_any (w.alloc (blk nilS none)) w.heap.size nilS none (nil_blk w)
  have HS := Lib.hid hs
  clear hs
  go_enter Tryz.func22, Tryz.ntmps22
  go_wp2_with (first
    | (go_at_call 31; (with_reducible refine HO.out.mono ?_); rintro e w' ⟨rfl, rfl⟩)
    | (go_at_call 19; (with_reducible refine HS.out.mono ?_); rintro e w' ⟨rfl, rfl⟩))
  go_ret
  exact ⟨rfl, nil_bel w⟩
set_option maxRecDepth 100000 in
theorem clone_nil (w : World) (n c : Nat) : Calls Tryz.prog 18 #[.slice none n c] w fun e w' => e = .returned (.slice none 0 0) ∧ w = w' := by
  have q22 : ∀ (w : World) (a : Option Addr) (n c n' c' : Nat), (binOp .eql 22 (.slice a n c) (.slice none n' c')).run Tryz.prog w = .ok (.bool a.isNone) w := fun w a n c n' c' => Lib.run_eql_slice_nil w _ _ a n c n' c' Tryz.underlying22
  go_enter Tryz.func18, Tryz.ntmps18
  go_wp2
  go_ret
  exact ⟨rfl, rfl⟩
set_option maxRecDepth 100000 in
theorem nil_read (w : World) (k : ByteArray) : Calls Tryz.prog 10 #[.pointer none, .string k] w fun e w' => e = .returned (.tuple #[.slice none 0 0, .bool false]) ∧ Below w.heap.size w w' := by
  have HO := Lib.hid (orDown_nil w)
  have c5 : (w.alloc (blk nilS none)).cell? ⟨w.heap.size, 5, none⟩ = some (.map none) := (blk_cells (nil_blk w)).1.2.2.2.2.2
  have hl := nil_bel w
  generalize w.alloc (blk nilS none) = W at HO c5 hl
  have hlk : (Instr.lookup 47 (.map none) (.string k) true).run Tryz.prog W = .ok (.tuple #[.slice none 0 0, .bool false]) W := lookup_run (w := W) (mb := none) (L := []) rfl k true
  have HC := Lib.hid (clone_nil W 0 0)
  have HL := Lib.hid hl
  clear hl
  go_enter Tryz.func10, Tryz.ntmps10
  go_wp2_with (first
    | (go_at_call 31; (with_reducible refine HO.out.mono ?_); rintro e w' ⟨rfl, rfl⟩)
    | (go_at_call 18; (with_reducible refine HC.out.mono ?_); rintro e w' ⟨rfl, rfl⟩))
  go_ret2
  exact ⟨rfl, HL.out⟩
set_option maxRecDepth 100000 in
theorem nil_ready (w : World) (v : Value) : Calls Tryz.prog 15 #[.pointer none, v] w fun e w' => e = .returned (.int .i64 14) ∧ Below w.heap.size w w' := by
  have HD := Lib.hid (nil_down w)
  go_enter Tryz.func15, Tryz.ntmps15
  go_wp2_with (go_at_call 22; (with_reducible refine HD.out.mono ?_); rintro e w1 ⟨rfl, hb1⟩; have HB1 := Lib.hid hb1; clear hb1)
  go_ret
  exact ⟨rfl, HB1.out⟩
set_option maxRecDepth 100000 in
theorem nil_append (w : World) (k : ByteArray) (v : Value) : Calls Tryz.prog 58 #[.pointer none, .string k, v] w fun e w' => e = .returned (.int .i64 14) ∧ Below w.heap.size w w' := by
  have hr := fun W v => nil_ready W v
  have HR := Lib.hid hr
  clear hr
  go_enter Tryz.func58, Tryz.ntmps58
  go_wp2_with (go_at_call 15; (with_reducible refine (HR.out _ _).mono ?_); rintro e w1 ⟨rfl, hb1⟩; have HB1 := Lib.hid hb1; clear hb1)
  go_ret
  exact ⟨rfl, ((Below.refl _ _).alloc (Nat.le_refl _) _).trans (HB1.out.mono (by simp))⟩
set_option maxRecDepth 100000 in
theorem nil_write (w : World) (k : ByteArray) (v : Value) : Calls Tryz.prog 5 #[.pointer none, .string k, v] w fun e w' => e = .returned (.int .i64 14) ∧ Below w.heap.size w w' := by
  have hr := fun W v => nil_ready W v
  have HR := Lib.hid hr
  clear hr
  go_enter Tryz.func5, Tryz.ntmps5
  go_wp2_with (go_at_call 15; (with_reducible refine (HR.out _ _).mono ?_); rintro e w1 ⟨rfl, hb1⟩; have HB1 := Lib.hid hb1; clear hb1)
  go_ret
  exact ⟨rfl, ((Below.refl _ _).alloc (Nat.le_refl _) _).trans (HB1.out.mono (by simp))⟩
/-- Slices of strings of which nothing is known but their form. -/
theorem str_append (w : World) (v : Value) (ns : List ByteArray) (h : w.ownsRow 0 9 1 v ns.length (sv ns)) (hn : ns.length ≤ 100) (k : ByteArray) :
    ∃ v' w', (Builtin.append_ #[85, 85] 85 #[v, .slice (some ⟨w.heap.size, 0, none⟩) 1 1]).run Tryz.prog (w.alloc (.cells #[.string k] 9)) = .ok v' w' ∧ w'.ownsRow 0 9 1 v' (ns ++ [k]).length (sv (ns ++ [k])) ∧ (w.alloc (.cells #[.string k] 9)).grownBy w' v.ownBlock := by
  obtain ⟨i0, hi0, hz0, hz1, hz2⟩ := info_parts strInf
  obtain ⟨v', w', h1, h2, h3, _⟩ := run_append_own (P := Tryz.prog) (w.alloc (.cells #[.string k] 9)) 0 85 85 9 i0 _ 1 16 Tryz.underlying85 hi0 hz0 hz1 hz2 rfl (by decide) v ns.length (sv ns) (h.alloc _) ⟨w.heap.size, 0, none⟩ 1 1 [.string k] rfl (World.news_of_block (cs := #[.string k]) (t := 9) (fr := (0, 0)) (heap_alloc_new _ _)) (by simp [Value.oneCell']) (by unfold maxLen; omega) (by omega) (Nat.zero_le _)
  refine ⟨v', w', h1, ?_, h3⟩
  have e : sv ns ++ [.string k] = sv (ns ++ [k]) := by simp [sv]
  rw [← e, List.length_append]
  exact h2

set_option maxRecDepth 100000 in
theorem nil_find (w : World) (k : ByteArray) (v : Value) (ns : List ByteArray) (h : w.ownsRow 0 9 1 v ns.length (sv ns)) (hn : ns.length ≤ 100) (n0 : Nat) (hb : ∀ i, v.ownBlock = some i → n0 ≤ i) (hn0 : n0 ≤ w.heap.size) :
    Calls Tryz.prog 50 #[.pointer none, .string k, v] w fun e w' => e = .returned (.int .i64 14) ∧ Below n0 w w' := by
  have hr := fun W v => nil_ready W v
  have HR := Lib.hid hr
  obtain ⟨v', w1, hr1, _, hg1⟩ := str_append w v ns h hn k
  have HR1 := Lib.hid hr1
  have HB1 : Hid (Below n0 w w1) := ((Below.refl _ _).alloc hn0 _).grown hg1 (by simp; omega) hb
  clear hr hr1 hg1 h hb
  go_enter Tryz.func50, Tryz.ntmps50
  go_wp2_with (first
    | (at_builtin; refine Lib.wpList_append_run _ rfl _ _ 85 85 rfl _ _ rfl rfl _ _ HR1.out ?_)
    | (go_at_call 15; (with_reducible refine (HR.out _ _).mono ?_); rintro e w2 ⟨rfl, hb2⟩; have HB2 := Lib.hid hb2; clear hb2))
  go_ret
  exact ⟨rfl, HB1.out.trans (HB2.out.mono (Nat.le_trans hn0 HB1.out.size))⟩
theorem own_lit (w : World) (k : ByteArray) : (w.alloc (.cells #[.string k] 9)).ownsRow 0 9 1 (.slice (some ⟨w.heap.size, 0, none⟩) 1 1) [k].length (sv [k]) :=
  World.ownsRow_lit (e := 9) (size := 1) (base := 0) w #[.string k] 1 (Nat.zero_le _) (by decide) rfl
set_option maxRecDepth 100000 in
theorem nil_cut (w : World) (k : ByteArray) (n : Int) : Calls Tryz.prog 26 #[.pointer none, .string k, .int .i64 n] w fun e w' => e = .returned (.int .i64 14) ∧ Below w.heap.size w w' := by
  have HF := Lib.hid (nil_find w k (.slice none 0 0) [] (World.ownsRow_nil _ _ _ _) (by simp) w.heap.size (fun i e => by cases e) (Nat.le_refl _))
  go_enter Tryz.func26, Tryz.ntmps26
  go_wp2_with (go_at_call 50; (with_reducible refine HF.out.mono ?_); rintro e w1 ⟨rfl, hb1⟩; have HB1 := Lib.hid hb1; clear hb1)
  go_ret
  exact ⟨rfl, HB1.out⟩
set_option maxRecDepth 100000 in
theorem nil_rename (w : World) (k tn : ByteArray) : Calls Tryz.prog 84 #[.pointer none, .string k, .string tn] w fun e w' => e = .returned (.int .i64 14) ∧ Below w.heap.size w w' := by
  have HF := Lib.hid (nil_find (w.alloc (.cells #[.string tn] 9)) k _ [tn] (own_lit w tn) (by simp) w.heap.size (fun i e => by cases e; exact Nat.le_refl _) (by simp))
  go_enter Tryz.func84, Tryz.ntmps84
  go_wp2_with (go_at_call 50; (with_reducible refine HF.out.mono ?_); rintro e w1 ⟨rfl, hb1⟩; have HB1 := Lib.hid hb1; clear hb1)
  go_ret
  exact ⟨rfl, ((Below.refl _ _).alloc (Nat.le_refl _) _).trans HB1.out⟩
end Go.Proofs.YtklngdmpledgeaaGreat.Sr

namespace Go.Proofs.YtklngdmpledgeaaGreat.Sr
open Go.RowKit Fr

set_option maxRecDepth 100000 in
set_option maxHeartbeats 2000000 in
theorem find_none (w : World) (p : Nat) (s : S) (mb : Option Nat) (L : List Fi) (k : ByteArray) (h : StR w p s mb L) :
    Calls Tryz.prog 50 #[.pointer (some ⟨p, 0, none⟩), .string k, .slice none 0 0] w fun e w' => e = .returned (.int .i64 (fnd s.d L k [k])) ∧ Below w.heap.size w w' := by
  obtain ⟨v1, w1, hr1, ho1, hg1⟩ := str_append w (.slice none 0 0) [] (World.ownsRow_nil _ _ _ _) (by simp) k
  have HS := Lib.hid h
  have HR1 := Lib.hid hr1
  have HB1 : Hid (Below w.heap.size w w1) := ((Below.refl _ _).alloc (Nat.le_refl _) _).grown hg1 (by simp) (fun i e => by cases e)
  obtain ⟨g1, c1, hv1, hn1⟩ := nrow_own (ns := [k]) ho1 (Nat.succ_pos _)
  have hv1 : v1 = .slice (some ⟨g1, 0, none⟩) 1 c1 := hv1
  subst hv1
  have HN1 := Lib.hid hn1
  have hrd : Calls Tryz.prog 15 #[.pointer (some ⟨p, 0, none⟩), .slice (some ⟨g1, 0, none⟩) 1 c1] w1 fun e w' => e = .returned (.int .i64 (rdy s.d [k])) ∧ Below w1.heap.size w1 w' := ready_any w1 p s mb g1 c1 [k] (h.below HB1.out).blk hn1 (by simp)
  have hlk : ∀ W1, StR W1 p s mb L → (Instr.lookup 47 (.map mb) (.string k) true).run Tryz.prog W1 = .ok (.tuple #[valL L k, .bool (hasL L k)]) W1 := fun W1 h2 => by
    have := lookup_run (w := W1) h2.map k true
    rw [if_pos rfl] at this; exact this
  obtain ⟨r, hr⟩ : ∃ r, r = rdy s.d [k] := ⟨_, rfl⟩
  obtain ⟨hh, hhh⟩ : ∃ hh, hh = hasL L k := ⟨_, rfl⟩
  have HF : Hid (fnd s.d L k [k] = if r ≠ 0 then r else if hh = true then 0 else 13) := by
    show _ = _
    rw [hr, hhh]; rfl
  rw [← hr] at hrd
  rw [← hhh] at hlk
  have HRD := Lib.hid hrd
  have HLK := Lib.hid hlk
  clear h hr1 ho1 hg1 hn1 hrd hlk hr hhh
  by_cases hr0 : r = 0
  · subst hr0
    have HF2 : Hid (fnd s.d L k [k] = if hh = true then 0 else 13) := by
      show _ = _
      rw [HF.out, if_neg (by decide)]
    clear HF
    cases hh
    · go_enter Tryz.func50, Tryz.ntmps50
      go_wp2_with (first
      | (at_builtin; refine Lib.wpList_append_run _ rfl _ _ 85 85 rfl _ _ rfl rfl _ _ HR1.out ?_)
      | (go_at_call 15; (with_reducible refine HRD.out.mono ?_); rintro e3 w3 ⟨rfl, hb3⟩
         have HB3 : Hid (Below w.heap.size w w3) := HB1.out.trans (hb3.mono HB1.out.size)
         have c5 := (blk_cells (HS.out.below HB3.out).blk).1.2.2.2.2.2
         have hlk := HLK.out w3 (HS.out.below HB3.out)
         clear hb3))
      go_ret
      exact ⟨ret_int HF2.out.symm, HB3.out⟩
    · go_enter Tryz.func50, Tryz.ntmps50
      go_wp2_with (first
      | (at_builtin; refine Lib.wpList_append_run _ rfl _ _ 85 85 rfl _ _ rfl rfl _ _ HR1.out ?_)
      | (go_at_call 15; (with_reducible refine HRD.out.mono ?_); rintro e3 w3 ⟨rfl, hb3⟩
         have HB3 : Hid (Below w.heap.size w w3) := HB1.out.trans (hb3.mono HB1.out.size)
         have c5 := (blk_cells (HS.out.below HB3.out).blk).1.2.2.2.2.2
         have hlk := HLK.out w3 (HS.out.below HB3.out)
         clear hb3))
      go_ret
      exact ⟨ret_int HF2.out.symm, HB3.out⟩
  · have hrb : (r != 0) = true := by simpa using hr0
    have HF2 : Hid (fnd s.d L k [k] = r) := by
      show _ = _
      rw [HF.out, if_pos hr0]
    clear HF
    go_enter Tryz.func50, Tryz.ntmps50
    go_wp2_with (first
      | (at_builtin; refine Lib.wpList_append_run _ rfl _ _ 85 85 rfl _ _ rfl rfl _ _ HR1.out ?_)
      | (go_at_call 15; (with_reducible refine HRD.out.mono ?_); rintro e3 w3 ⟨rfl, hb3⟩
         have HB3 : Hid (Below w.heap.size w w3) := HB1.out.trans (hb3.mono HB1.out.size)
         have c5 := (blk_cells (HS.out.below HB3.out).blk).1.2.2.2.2.2
         have hlk := HLK.out w3 (HS.out.below HB3.out)
         clear hb3))
    go_ret
    exact ⟨ret_int HF2.out.symm, HB3.out⟩
end Go.Proofs.YtklngdmpledgeaaGreat.Sr
