/-
  The contract of Append at no bytes. Conditions: a store.
-/
import Derived.Test.YtklngdmpledgeaaGreatJZ14
import Derived.Test.YtklngdmpledgeaaGreatJZ17
import Derived.Test.YtklngdmpledgeaaGreatSWri
import Derived.Lib.SlBytesConst
import Derived.Laws.IdiomStrings
import Derived.Lib.BufferRead
namespace Go.Proofs.YtklngdmpledgeaaGreat.Sr
open Go.RowKit Fr

set_option maxRecDepth 100000 in
set_option maxHeartbeats 2000000 in
/-- No byte goes behind the file's: it is made, if it isn't there. -/
theorem append_zero (w : World) (p : Nat) (s : S) (mb : Option Nat) (L : List Fi) (k : ByteArray) (A : Option Addr) (c : Nat) (h : StR w p s mb L) (hr : rdy s.d [k] = 0) :
    Calls Tryz.prog 58 #[.pointer (some ⟨p, 0, none⟩), .string k, .slice A 0 c] w fun e w' => e = .returned (.int .i64 (dwn (useS s 0))) ∧ ∃ mb' v', Mv w w' p mb L { useS s 0 with used := s.used } mb' (putL L k (v', bytL L k)) := by
  have HR := Lib.hid (ready_one h.blk k)
  rw [hr] at HR
  have HS := Lib.hid h
  have hroom := h.room
  have hused := h.used
  have huse : ∀ W, Below w.heap.size w W → Calls Tryz.prog 16 #[.pointer (some ⟨p, 0, none⟩), .int .i64 0] W fun e w' => e = .returned (.int .i64 0) ∧ Own W w' p (useS s 0) mb := fun W hW => by
    have hz : useN s 0 = 0 := by have := useN_le s 0 h.left; simpa using Int.le_antisymm this.2 this.1
    have := use_any W p s mb 0 ((h.below hW).blk) (by omega) h.left
    rw [hz] at this; exact this
  have HUS := Lib.hid huse
  have hok : okN k = true := by
    have : ([k].all okN) = true := by
      unfold rdy at hr
      split at hr
      · cases hr
      · split at hr
        · assumption
        · cases hr
    simpa using this
  have hks : k.size ≤ 12 := by
    unfold okN at hok
    simp only [Bool.and_eq_true, decide_eq_true_eq] at hok
    exact hok.1.2
  have hle := byt_used L k
  have hst : ∀ W : World, (Instr.slice 22 (.slice A 0 c) none (some (.int .i64 0)) none).run Tryz.prog W = .ok (.slice A 0 c) W := slice_to A 0 c 0 (Nat.zero_le _)
  have HLE := Lib.hid hle
  have hkeep := Lib.hid (useS_keeps s 0 (by omega) h.left)
  obtain ⟨x, hx⟩ : ∃ x, x = s.room := ⟨_, rfl⟩
  obtain ⟨u, hu⟩ : ∃ u, u = s.used := ⟨_, rfl⟩
  have hx0 : 0 ≤ x ∧ x ≤ 1048576 := by omega
  have hu0 : 0 ≤ u ∧ u ≤ 1048576 := by omega
  have hf : ¬ x < u := by rw [hx, hu]; have := h.room; have := h.used; omega
  obtain ⟨x0, x1⟩ := hx0
  obtain ⟨u0, u1⟩ := hu0
  have hroomN : Hid (((usedL L : Int) - (bytL L k).length + (bytL L k).length) ≤ s.room) := by
    show _ ≤ _
    omega
  have hused0 : Hid (0 ≤ s.used ∧ s.used ≤ 4000000 ∧ (bytL L k).length ≤ 4000000 ) := by
    show _ ∧ _
    omega
  have HX := Lib.hid hx
  have HU := Lib.hid hu
  obtain ⟨s1, hs1⟩ : ∃ s1, s1 = useS s 0 := ⟨_, rfl⟩
  rw [← hs1] at HUS hkeep ⊢
  obtain ⟨d1, hd1⟩ : ∃ d1, d1 = dwn s1 := ⟨_, rfl⟩
  rw [← hd1]
  have hstt : ∀ W mb', W.heap[p]? = some (blk { s1 with used := s.used } mb') → Calls Tryz.prog 19 #[.pointer (some ⟨p, 0, none⟩)] W fun e w' => e = .returned (.int .i64 d1) ∧ W = w' := fun W mb' hW => by
    rw [hd1]; exact state_any W p { s1 with used := s.used } mb' hW
  have HST := Lib.hid hstt
  clear h hr hx hu hroom hused huse hs1 hd1 hok hle hstt
  go_enter Tryz.func58, Tryz.ntmps58
  go_upto_region 4 with (go_at_call 15; refine HR.out.mono ?_; rintro e w1 ⟨rfl, hb1⟩; have HB1 := Lib.hid hb1; clear hb1)
  have c3 : ∀ q : InW w1, q.val.cell? ⟨p, 3, none⟩ = some (.int .i64 x) := fun q => q.cell (by rw [HX.out]; exact (blk_cells (HS.out.below HB1.out).blk).1.2.2.2.1)
  have c4 : ∀ q : InW w1, q.val.cell? ⟨p, 4, none⟩ = some (.int .i64 u) := fun q => q.cell (by rw [HU.out]; exact (blk_cells (HS.out.below HB1.out).blk).1.2.2.2.2.1)
  refine wp_region_below (W := w1) (by kernel_rfl) (by kernel_rfl) (Below.refl _ _) ?_
  repeat (go_big_quiet_step (fail))
  refine wpQuiet_nil ?_
  rintro _ ⟨q0, rfl⟩
  obtain ⟨wq, hbq⟩ := q0
  try dsimp only
  have HBQ : Hid (Below w.heap.size w wq) := HB1.out.trans (hbq.mono HB1.out.size)
  clear c3 c4 hbq
  go_upto_region 8 with (go_at_call 16; (with_reducible refine (HUS.out _ HBQ.out).mono ?_); rintro e w2 ⟨rfl, how⟩; have HOW := Lib.hid how; clear how)
  have HMV : Hid (Mv w w2 p mb L s1 mb L) := (Mv.of_below HS.out HBQ.out).trans (Mv.of_own (HS.out.below HBQ.out) HOW.out hkeep.out.1 hkeep.out.2.1 hkeep.out.2.2)
  have c5 : w2.drew.cell? ⟨p, 5, none⟩ = some (.map mb) := (blk_cells HMV.out.st.blk).1.2.2.2.2.2
  obtain ⟨A0, n0, cc, hval⟩ : ∃ A0 n0 cc, valL L k = .slice A0 n0 cc := by
    obtain ⟨A0, cc, e, _⟩ := BAt.of_own (val_row HS.out.rows k); exact ⟨A0, _, cc, e⟩
  have hlk : (Instr.lookup 47 (.map mb) (.string k) false).run Tryz.prog w2.drew = .ok (.slice A0 n0 cc) w2.drew := by
    rw [← hval]; exact lookup_run (w := w2.drew) (L := L) HMV.out.st.map k false
  have HVAL := Lib.hid hval
  have hS0 : w2.drew.cell? ⟨p, 5, none⟩ = some (.map mb) ∧ (Instr.lookup 47 (.map mb) (.string k) false).run Tryz.prog w2.drew = .ok (.slice A0 n0 cc) w2.drew := ⟨c5, hlk⟩
  clear hval c5 hlk
  refine wp_region_two 12 (by kernel_rfl) (by kernel_rfl) ?_
  simp only [List.take_succ_cons, List.take_zero, List.drop_succ_cons, List.drop_zero]
  have HMV3 : Hid (Mv w w2.drew p mb L s1 mb L) := HMV.out.trans (Mv.of_below HMV.out.st (Below.refl _ _).drew)
  generalize w2.drew = w3 at hS0 HMV3 ⊢
  refine wpAny_of_held (S := fun w' => w'.cell? ⟨p, 5, none⟩ = some (.map mb) ∧ (Instr.lookup 47 (.map mb) (.string k) false).run Tryz.prog w' = .ok (.slice A0 n0 cc) w') _ _ _ _ ?_
  refine held_step 0 41 (.pointer (some ⟨p, 0, none⟩)) rfl rfl rfl (by kernel_rfl) (fun _ _ _ h => h) hS0 (fun w1 hS => by obtain ⟨s1, s2⟩ := hS; go_simp) ?_
  simp only [Act.put, List.setIfInBounds_toArray, List.set_cons_succ, List.set_cons_zero]
  refine held_step 1 42 (.string k) rfl rfl rfl (by kernel_rfl) (fun _ _ _ h => h) hS0 (fun w1 hS => by obtain ⟨s1, s2⟩ := hS; go_simp) ?_
  simp only [Act.put, List.setIfInBounds_toArray, List.set_cons_succ, List.set_cons_zero]
  refine held_step 2 43 (.pointer (some ⟨p, 0, none⟩)) rfl rfl rfl (by kernel_rfl) (fun _ _ _ h => h) hS0 (fun w1 hS => by obtain ⟨s1, s2⟩ := hS; go_simp) ?_
  simp only [Act.put, List.setIfInBounds_toArray, List.set_cons_succ, List.set_cons_zero]
  refine held_step 3 44 (.pointer (some ⟨p, 0, none⟩)) rfl rfl rfl (by kernel_rfl) (fun _ _ _ h => h) hS0 (fun w1 hS => by obtain ⟨s1, s2⟩ := hS; go_simp) ?_
  simp only [Act.put, List.setIfInBounds_toArray, List.set_cons_succ, List.set_cons_zero]
  refine held_step 4 45 (.pointer (some ⟨p, 5, none⟩)) rfl rfl rfl (by kernel_rfl) (fun _ _ _ h => h) hS0 (fun w1 hS => by obtain ⟨s1, s2⟩ := hS; go_simp) ?_
  simp only [Act.put, List.setIfInBounds_toArray, List.set_cons_succ, List.set_cons_zero]
  refine held_step 5 46 (.map mb) rfl rfl rfl (by kernel_rfl) (fun _ _ _ h => h) hS0 (fun w1 hS => by obtain ⟨s1, s2⟩ := hS; go_simp) ?_
  simp only [Act.put, List.setIfInBounds_toArray, List.set_cons_succ, List.set_cons_zero]
  refine held_step 6 47 (.string k) rfl rfl rfl (by kernel_rfl) (fun _ _ _ h => h) hS0 (fun w1 hS => by obtain ⟨s1, s2⟩ := hS; go_simp) ?_
  simp only [Act.put, List.setIfInBounds_toArray, List.set_cons_succ, List.set_cons_zero]
  refine held_step 7 48 (.slice A0 n0 cc) rfl rfl rfl (by kernel_rfl) (fun _ _ _ h => h) hS0 (fun w1 hS => by obtain ⟨s1, s2⟩ := hS; go_simp) ?_
  simp only [Act.put, List.setIfInBounds_toArray, List.set_cons_succ, List.set_cons_zero]
  refine held_step 8 49 (.slice A 0 c) rfl rfl rfl (by kernel_rfl) (fun _ _ _ h => h) hS0 (fun w1 hS => by obtain ⟨s1, s2⟩ := hS; go_simp) ?_
  simp only [Act.put, List.setIfInBounds_toArray, List.set_cons_succ, List.set_cons_zero]
  refine held_step 9 50 (.int .i64 0) rfl rfl rfl (by kernel_rfl) (fun _ _ _ h => h) hS0 (fun w1 hS => by obtain ⟨s1, s2⟩ := hS; go_simp) ?_
  simp only [Act.put, List.setIfInBounds_toArray, List.set_cons_succ, List.set_cons_zero]
  obtain ⟨A4, c4, w4, hr4, ho4, hg4, hl4⟩ := app_at w3 (valL L k) (bytL L k) (val_row HMV3.out.st.rows k) (.slice A 0 c) [] ⟨A, c, rfl, Nat.zero_le _, fun h => absurd h (by decide)⟩ (by have := hused0.out; simp only [List.length_nil]; omega)
  rw [List.append_nil] at ho4
  simp only [List.length_nil, Nat.add_zero] at hr4 ho4 hl4
  rw [HVAL.out] at hr4
  obtain ⟨n4, hn4⟩ : ∃ n4, n4 = (bytL L k).length := ⟨_, rfl⟩
  rw [← hn4] at hr4 ho4 hl4
  have HN4 := Lib.hid hn4
  have hput : Calls Tryz.prog 17 #[.pointer (some ⟨p, 0, none⟩), .string k, .slice A4 n4 c4] w4 fun e w' => e = .returned (.tuple #[]) ∧ PutTo w4 w' p s1 mb L k (.slice A4 n4 c4) (bytL L k) n4 := by
    obtain ⟨k1, k2⟩ := app_keeps HMV3.out.st hg4
    refine put_any w4 p mb s1 L k A4 A0 n4 c4 n0 cc (bytL L k) k1 k2 hks HVAL.out ?_ ?_
    · obtain ⟨A9, c9, e, _⟩ := BAt.of_own (val_row HMV3.out.st.rows k)
      rw [HVAL.out] at e; cases e; rfl
    · have h1 := hused0.out
      have h2 := hkeep.out.1
      have h3 : n0 = (bytL L k).length := by
        obtain ⟨A9, c9, e, _⟩ := BAt.of_own (val_row HMV3.out.st.rows k)
        rw [HVAL.out] at e; cases e; rfl
      rw [h2, h3, hn4]; omega
  have HPUT := Lib.hid hput
  have HFIN : Hid (∀ w5, PutTo w4 w5 p s1 mb L k (.slice A4 n4 c4) (bytL L k) n4 → ∃ mb' v', Mv w w5 p mb L { s1 with used := s.used } mb' (putL L k (v', bytL L k))) := by
    intro w5 hP
    rw [hn4] at hP
    obtain ⟨mb', v', hmv⟩ := app_step HMV3.out.st hg4 (by rw [hn4] at ho4; exact ho4) (by rw [hn4] at hl4; exact hl4) (by rw [hkeep.out.2.1]; exact hroomN.out) hP
    refine ⟨mb', v', HMV3.out.trans ?_⟩
    have hs : ({ s1 with used := s1.used + (((bytL L k).length : Int) - ((bytL L k).length : Int)) } : S) = { s1 with used := s.used } := by
      rw [hkeep.out.1]; congr 1; omega
    rw [hs] at hmv; exact hmv
  clear hl4 ho4 hput hn4
  have HG4 := Lib.hid hg4
  have HR4 := Lib.hid hr4
  clear hg4 hr4
  have hS4 : w4.cell? ⟨p, 5, none⟩ = some (.map mb) ∧ (Instr.lookup 47 (.map mb) (.string k) false).run Tryz.prog w4 = .ok (.slice A0 n0 cc) w4 := by
    obtain ⟨k1, k2⟩ := app_keeps HMV3.out.st HG4.out
    exact ⟨(blk_cells k1).1.2.2.2.2.2, by rw [← HVAL.out]; exact lookup_run k2 k false⟩
  refine held_two 10 rfl rfl (by kernel_rfl) ?_
  go_wp2
  refine ⟨hS0, ?_⟩
  refine Lib.wpList_append_run _ rfl _ _ 22 22 rfl _ _ rfl rfl _ _ HR4.out ?_
  simp only [Act.put, List.setIfInBounds_toArray]
  refine ⟨hS4, ?_⟩
  show wpList _ _ _ _ _ _
  go_wp2_with (first
      | (go_at_call 19; (with_reducible refine (HST.out _ _ HMV5.out.st.blk).mono ?_); rintro e w6 ⟨rfl, rfl⟩)
      | (go_at_call 17; (with_reducible refine HPUT.out.mono ?_); rintro e w5 ⟨rfl, hp5⟩
         obtain ⟨mb', v', hmv5⟩ := HFIN.out w5 hp5
         have HMV5 := Lib.hid hmv5
         clear hp5 hmv5))
  go_ret
  exact ⟨rfl, mb', v', HMV5.out⟩
end Go.Proofs.YtklngdmpledgeaaGreat.Sr

namespace Go.Proofs.YtklngdmpledgeaaGreat.Sr
open Go.RowKit Fr

set_option maxRecDepth 100000 in
set_option maxHeartbeats 1000000 in
theorem read_any (w : World) (p : Nat) (s : S) (mb : Option Nat) (L : List Fi) (k : ByteArray) (h : StR w p s mb L) :
    Calls Tryz.prog 10 #[.pointer (some ⟨p, 0, none⟩), .string k] w fun e w' => ∃ A n c, e = .returned (.tuple #[.slice A n c, .bool (hasL L k)]) ∧ n = (bytL L k).length ∧ w'.ownsRow w.heap.size 5 1 (.slice A n c) (bytL L k).length (bv (bytL L k)) ∧ Below w.heap.size w w' := by
  have HO := Lib.hid (orDown_own w p)
  obtain ⟨⟨_, _, _, _, _, c5⟩, _⟩ := blk_cells h.blk
  have hlk := lookup_run (w := w) h.map k true
  rw [if_pos rfl] at hlk
  have hr := val_row h.rows k
  have hroom := h.room
  have hle := byt_used L k
  have hcl := clone_any w (valL L k) (bytL L k) (BAt.of_own hr) (by omega)
  obtain ⟨A0, n0, cc, hval⟩ : ∃ A0 n0 cc, valL L k = .slice A0 n0 cc := by
    obtain ⟨A0, cc, e, _⟩ := BAt.of_own hr; exact ⟨A0, _, cc, e⟩
  rw [hval] at hlk hcl
  have HCL := Lib.hid hcl
  obtain ⟨q, hq⟩ : ∃ q, q = hasL L k := ⟨_, rfl⟩
  rw [← hq] at hlk ⊢
  clear hr hroom hle hcl hval h hq
  go_enter Tryz.func10, Tryz.ntmps10
  go_wp2_with (first
    | (go_at_call 31; (with_reducible refine HO.out.mono ?_); rintro e w' ⟨rfl, rfl⟩)
    | (go_at_call 18; (with_reducible refine HCL.out.mono ?_); rintro e w3 ⟨v3, rfl, ho3, hb3⟩
       obtain ⟨A4, n4, c4, hv4, hn4⟩ : ∃ A n c, v3 = Value.slice A n c ∧ n = (bytL L k).length := by obtain ⟨A4, c4, hv4, _⟩ := BAt.of_own ho3; exact ⟨A4, _, c4, hv4, rfl⟩
       subst hv4
       have HO3 := Lib.hid ho3
       have HB3 := Lib.hid hb3
       have HN4 := Lib.hid hn4
       clear ho3 hb3 hn4))
  go_ret2
  exact ⟨A4, n4, c4, rfl, HN4.out, HO3.out, HB3.out⟩
end Go.Proofs.YtklngdmpledgeaaGreat.Sr

namespace Go.Proofs.YtklngdmpledgeaaGreat.Sr
open Go.RowKit Fr

def u8s (l : List Int) : List UInt8 := l.map fun x => UInt8.ofNat x.toNat
def strOf (l : List Int) : ByteArray := ⟨(u8s l).toArray⟩
theorem conv_any {w : World} {u : Value} {l : List Int} (h : BAt w u l) (hb : bok l) : (convert 22 9 u).run Tryz.prog w = .ok (.string (strOf l)) w := by
  obtain ⟨A, cap, rfl, _, hc⟩ := h
  have hl : (u8s l).length = l.length := by simp [u8s]
  cases A with
  | none =>
    cases l with
    | nil => exact Lib.run_convert_nil_bytes w 22 9 5 cap Tryz.underlying22 Tryz.underlying5 Tryz.underlying9
    | cons x r => obtain ⟨g, o, h1, _⟩ := hc (by simp); cases h1
  | some a =>
    have := run_convert_bytes_back (P := Tryz.prog) w 22 9 5 a cap (u8s l) Tryz.underlying22 Tryz.underlying5 Tryz.underlying9 (fun j hj => by
      rw [hl] at hj
      obtain ⟨g, o, h1, _, h3⟩ := hc (by omega)
      cases h1
      rw [show (Addr.mk g o none).add j = ⟨g, o + j, none⟩ by unfold Addr.add; split <;> simp_all, h3 j hj]
      have hx : l.getD j 0 = l[j] := by simp [List.getD, List.getElem?_eq_getElem hj]
      have := hb l[j] (List.getElem_mem hj)
      rw [hx]
      simp [u8s]
      omega)
    rw [hl] at this
    exact this
/-- Bytes that lie in no block of T. -/
def Free (T : Nat → Prop) (v : Value) : Prop := ∀ a n c, v = .slice (some a) n c → ¬ T a.block
theorem bat_off {T : Nat → Prop} {w w' : World} {v : Value} {l : List Int} (h : BAt w v l) (ho : Off T w w') (hf : Free T v) : BAt w' v l := by
  obtain ⟨A, cap, rfl, h2, h3⟩ := h
  refine ⟨A, cap, rfl, h2, fun hp => ?_⟩
  obtain ⟨g, o, h4, h5, h6⟩ := h3 hp
  refine ⟨g, o, h4, Nat.lt_of_lt_of_le h5 ho.1.size, fun i hi => ?_⟩
  subst h4
  rw [World.cell?_of_block (w := w) (ho.2 g h5 (hf _ _ _ rfl))]; exact h6 i hi
theorem own_nil {p i : Nat} (h : own p none [] i) : i = p := by
  rcases h with h | h | ⟨x, hx, _⟩
  · exact h
  · cases h
  · cases hx
/-- A row that was laid behind a store's blocks is free of them. -/
theorem free_new {w w' : World} {p : Nat} {s : S} {mb : Option Nat} {L : List Fi} {v : Value} {n : Nat} {xs : List Value} (h : StR w p s mb L) (ho : w'.ownsRow w.heap.size 5 1 v n xs) : Free (own p mb L) v := by
  rintro a m c rfl hi
  have := (ho.lt a.block rfl).1
  have := own_lt h hi
  omega

theorem new_any (w : World) (n : Int) (h0 : 0 ≤ n) (h1 : n ≤ 1048576) :
    Calls Tryz.prog 4 #[.int .i64 n] w fun e w' => e = .returned (.tuple #[.pointer (some ⟨w.heap.size, 0, none⟩), .int .i64 0]) ∧ StR w' w.heap.size ⟨false, 0, false, n, 0⟩ none [] ∧ Below w.heap.size w w' ∧ w.heap.size < w'.heap.size := by
  refine (new_ok w n h0 h1).mono ?_
  rintro e w' ⟨rfl, rfl⟩
  exact ⟨rfl, ⟨block_new _ _, rfl, fun x hx => (by cases hx), List.Pairwise.nil, List.Pairwise.nil, rfl, ⟨h0, h1⟩, fun e => by cases e⟩, (Below.refl _ _).alloc (Nat.le_refl _) _, by simp⟩

/-- Bytes that the call has laid ahead of a change. -/
theorem lit_free {w : World} {p : Nat} {s : S} {mb : Option Nat} {L : List Fi} (h : StR w p s mb L) (l : List Int) (fr : Nat × Nat) :
    StR (w.alloc (.cells (bv l).toArray 5 fr)) p s mb L ∧ ∀ w', Off (own p mb L) (w.alloc (.cells (bv l).toArray 5 fr)) w' → BAt w' (.slice (some ⟨w.heap.size, 0, none⟩) l.length l.length) l := by
  refine ⟨h.below ((Below.refl _ _).alloc (Nat.le_refl _) _), fun w' ho => bat_off (lit_at w l fr) ho ?_⟩
  rintro a n c e hi
  cases e
  have := own_lt h hi
  exact absurd this (Nat.lt_irrefl _)
theorem mv_alloc {w w' : World} {o : Obj} {p : Nat} {mb mb' : Option Nat} {L L' : List Fi} {s s' : S} (hs : StR w p s mb L) (h : Mv (w.alloc o) w' p mb L s' mb' L') : Mv w w' p mb L s' mb' L' :=
  (Mv.of_below hs ((Below.refl _ _).alloc (Nat.le_refl _) _)).trans h

theorem okLog : rdy false [({ data := #[108, 111, 103] } : ByteArray)] = 0 := by decide

theorem k_app1 (w : World) (p : Nat) (h : StR w p ⟨true, 2, false, 10, 0⟩ none []) :
    Calls Tryz.prog 58 #[.pointer (some ⟨p, 0, none⟩), .string ({ data := #[108, 111, 103] } : ByteArray), .slice (some ⟨w.heap.size, 0, none⟩) 3 3] (w.alloc (.cells #[.int .u8 97, .int .u8 98, .int .u8 99] 5 (3, 4))) fun e w' =>
      e = .returned (.int .i64 14) ∧ ∃ mb v, Mv w w' p none [] ⟨true, 0, true, 10, 2⟩ mb [(({ data := #[108, 111, 103] } : ByteArray), v, [97, 98])] := by
  obtain ⟨h1, h2⟩ := lit_free h [97, 98, 99] (3, 4)
  have := append_put _ p _ none [] ({ data := #[108, 111, 103] } : ByteArray) _ 3 3 [97, 98, 99] 2 h1 okLog (by decide) (by decide) rfl (by simp [useN]) (by decide) h2
  refine this.mono ?_
  rintro e w' ⟨rfl, mb', v', hm⟩
  exact ⟨by simp [useS, dwn], mb', v', mv_alloc h hm⟩
theorem k_app2 (w : World) (p : Nat) (mb : Option Nat) (v : Value) (h : StR w p ⟨false, 0, false, 10, 2⟩ mb [(({ data := #[108, 111, 103] } : ByteArray), v, [97, 98])]) :
    Calls Tryz.prog 58 #[.pointer (some ⟨p, 0, none⟩), .string ({ data := #[108, 111, 103] } : ByteArray), .slice (some ⟨w.heap.size, 0, none⟩) 1 1] (w.alloc (.cells #[.int .u8 99] 5 (1, 2))) fun e w' =>
      e = .returned (.int .i64 0) ∧ ∃ mb' v', Mv w w' p mb [(({ data := #[108, 111, 103] } : ByteArray), v, [97, 98])] ⟨false, 0, false, 10, 3⟩ mb' [(({ data := #[108, 111, 103] } : ByteArray), v', [97, 98, 99])] := by
  obtain ⟨h1, h2⟩ := lit_free h [99] (1, 2)
  have := append_put _ p _ mb _ ({ data := #[108, 111, 103] } : ByteArray) _ 1 1 [99] 1 h1 okLog (by decide) (by decide) rfl (by simp [useN]) (by decide) h2
  refine this.mono ?_
  rintro e w' ⟨rfl, mb', v', hm⟩
  refine ⟨by simp [useS, dwn], mb', v', ?_⟩
  have e2 : putL [(({ data := #[108, 111, 103] } : ByteArray), v, [97, 98])] ({ data := #[108, 111, 103] } : ByteArray) (v', bytL [(({ data := #[108, 111, 103] } : ByteArray), v, [97, 98])] ({ data := #[108, 111, 103] } : ByteArray) ++ [99].take 1) = [(({ data := #[108, 111, 103] } : ByteArray), v', [97, 98, 99])] := by simp [putL, bytL]
  rw [e2] at hm
  exact mv_alloc h hm
theorem k_wri (w : World) (p : Nat) (mb : Option Nat) (v : Value) (h : StR w p ⟨true, 0, false, 10, 3⟩ mb [(({ data := #[108, 111, 103] } : ByteArray), v, [97, 98, 99])]) :
    Calls Tryz.prog 5 #[.pointer (some ⟨p, 0, none⟩), .string ({ data := #[108, 111, 103] } : ByteArray), .slice none 0 0] w fun e w' =>
      e = .returned (.int .i64 14) ∧ Mv w w' p mb [(({ data := #[108, 111, 103] } : ByteArray), v, [97, 98, 99])] ⟨true, 0, true, 10, 3⟩ mb [(({ data := #[108, 111, 103] } : ByteArray), v, [97, 98, 99])] := by
  have := write_down _ p _ mb _ ({ data := #[108, 111, 103] } : ByteArray) none 0 0 h okLog (by simp [bytL]) (by decide) (by simp [useN])
  refine this.mono ?_
  rintro e w' ⟨rfl, hm⟩
  refine ⟨by simp [useS, dwn], ?_⟩
  have e1 : useS ⟨true, 0, false, 10, 3⟩ (1 + ((0 : Nat) : Int)) = ⟨true, 0, true, 10, 3⟩ := by simp [useS]
  rw [e1] at hm
  exact hm
theorem k_read (w : World) (p : Nat) (s : S) (mb : Option Nat) (v : Value) (l : List Int) (n : Nat) (hn : l.length = n) (h : StR w p s mb [(({ data := #[108, 111, 103] } : ByteArray), v, l)]) :
    Calls Tryz.prog 10 #[.pointer (some ⟨p, 0, none⟩), .string ({ data := #[108, 111, 103] } : ByteArray)] w fun e w' => ∃ A c, e = .returned (.tuple #[.slice A n c, .bool true]) ∧ BAt w' (.slice A n c) l ∧ Free (own p mb [(({ data := #[108, 111, 103] } : ByteArray), v, l)]) (.slice A n c) ∧ Below w.heap.size w w' := by
  refine (read_any w p s mb _ ({ data := #[108, 111, 103] } : ByteArray) h).mono ?_
  rintro e w' ⟨A, m, c, rfl, hm, ho, hb⟩
  have e1 : hasL [(({ data := #[108, 111, 103] } : ByteArray), v, l)] ({ data := #[108, 111, 103] } : ByteArray) = true := by simp [hasL]
  have e2 : bytL [(({ data := #[108, 111, 103] } : ByteArray), v, l)] ({ data := #[108, 111, 103] } : ByteArray) = l := by simp [bytL]
  rw [e2] at hm ho
  have hmn : m = n := hm.trans hn
  subst hmn
  rw [e1]
  exact ⟨A, c, rfl, BAt.of_own ho, free_new h ho, hb⟩

end Go.Proofs.YtklngdmpledgeaaGreat.Sr
