/-
  The contract of Append at no bytes. Conditions: a store.
-/
import Derived.Test.YtjijgoflbjbnfaaGreatVM13
import Derived.Test.YtjijgoflbjbnfaaGreatVM16
import Derived.Test.YtjijgoflbjbnfaaGreatVM14
import Derived.Lib.SlBytesConst
import Derived.Laws.IdiomStrings
import Derived.Lib.BufferRead
import Derived.Test.YtjijgoflbjbnfaaGreatVM15
namespace Go.Proofs.YtjijgoflbjbnfaaGreat.Sr
open Go.RowKit Fr

set_option maxRecDepth 100000 in
set_option maxHeartbeats 2000000 in
/-- No byte goes behind the file's: it is made, if it isn't there. -/
theorem append_zero (w : World) (p : Nat) (s : S) (mb : Option Nat) (L : List Fi) (k : ByteArray) (A : Option Addr) (c : Nat) (h : StR w p s mb L) (hr : rdy s.d [k] = 0) :
    Calls Tryz.prog 90 #[.pointer (some ⟨p, 0, none⟩), .string k, .slice A 0 c] w fun e w' => e = .returned (.int .i64 (dwn (useS s 0))) ∧ ∃ mb' v', Mv w w' p mb L { useS s 0 with used := s.used } mb' (putL L k (v', bytL L k)) := by
  have HR := Lib.hid (ready_one h.blk k)
  rw [hr] at HR
  have HS := Lib.hid h
  have hroom := h.room
  have hused := h.used
  have huse : ∀ W, Below w.heap.size w W → Calls Tryz.prog 43 #[.pointer (some ⟨p, 0, none⟩), .int .i64 0] W fun e w' => e = .returned (.int .i64 0) ∧ Own W w' p (useS s 0) mb := fun W hW => by
    have hz : useN s 0 = 0 := by have := useN_le s 0 h.left; simpa using Int.le_antisymm this.2 this.1
    have := use_any W p s mb 0 ((h.below hW).blk) (by omega) h.left
    rw [hz] at this; exact this
  have HUS := Lib.hid huse
  have hok : okN k = true := by
    have : ([k].all okN) = true := by
      unfold rdy at hr
      split at hr
      · cases hr
      · split at hr
        · assumption
        · cases hr
    simpa using this
  have hks : k.size ≤ 12 := by
    unfold okN at hok
    simp only [Bool.and_eq_true, decide_eq_true_eq] at hok
    exact hok.1.2
  have hle := byt_used L k
  have hst : ∀ W : World, (Instr.slice 32 (.slice A 0 c) none (some (.int .i64 0)) none).run Tryz.prog W = .ok (.slice A 0 c) W := slice_to A 0 c 0 (Nat.zero_le _)
  have HLE := Lib.hid hle
  have hkeep := Lib.hid (useS_keeps s 0 (by omega) h.left)
  obtain ⟨x, hx⟩ : ∃ x, x = s.room := ⟨_, rfl⟩
  obtain ⟨u, hu⟩ : ∃ u, u = s.used := ⟨_, rfl⟩
  have hx0 : 0 ≤ x ∧ x ≤ 1048576 := by omega
  have hu0 : 0 ≤ u ∧ u ≤ 1048576 := by omega
  have hf : ¬ x < u := by rw [hx, hu]; have := h.room; have := h.used; omega
  obtain ⟨x0, x1⟩ := hx0
  obtain ⟨u0, u1⟩ := hu0
  have hroomN : Hid (((usedL L : Int) - (bytL L k).length + (bytL L k).length) ≤ s.room) := by
    show _ ≤ _
    omega
  have hused0 : Hid (0 ≤ s.used ∧ s.used ≤ 4000000 ∧ (bytL L k).length ≤ 4000000 ) := by
    show _ ∧ _
    omega
  have HX := Lib.hid hx
  have HU := Lib.hid hu
  obtain ⟨s1, hs1⟩ : ∃ s1, s1 = useS s 0 := ⟨_, rfl⟩
  rw [← hs1] at HUS hkeep ⊢
  obtain ⟨d1, hd1⟩ : ∃ d1, d1 = dwn s1 := ⟨_, rfl⟩
  rw [← hd1]
  have hstt : ∀ W mb', W.heap[p]? = some (blk { s1 with used := s.used } mb') → Calls Tryz.prog 45 #[.pointer (some ⟨p, 0, none⟩)] W fun e w' => e = .returned (.int .i64 d1) ∧ W = w' := fun W mb' hW => by
    rw [hd1]; exact state_any W p { s1 with used := s.used } mb' hW
  have HST := Lib.hid hstt
  clear h hr hx hu hroom hused huse hs1 hd1 hok hle hstt
  go_enter Tryz.func90, Tryz.ntmps90
  go_upto_region 4 with (go_at_call 42; refine HR.out.mono ?_; rintro e w1 ⟨rfl, hb1⟩; have HB1 := Lib.hid hb1; clear hb1)
  have c3 : ∀ q : InW w1, q.val.cell? ⟨p, 3, none⟩ = some (.int .i64 x) := fun q => q.cell (by rw [HX.out]; exact (blk_cells (HS.out.below HB1.out).blk).1.2.2.2.1)
  have c4 : ∀ q : InW w1, q.val.cell? ⟨p, 4, none⟩ = some (.int .i64 u) := fun q => q.cell (by rw [HU.out]; exact (blk_cells (HS.out.below HB1.out).blk).1.2.2.2.2.1)
  refine wp_region_below (W := w1) (by kernel_rfl) (by kernel_rfl) (Below.refl _ _) ?_
  repeat (go_big_quiet_step (fail))
  refine wpQuiet_nil ?_
  rintro _ ⟨q0, rfl⟩
  obtain ⟨wq, hbq⟩ := q0
  try dsimp only
  have HBQ : Hid (Below w.heap.size w wq) := HB1.out.trans (hbq.mono HB1.out.size)
  clear c3 c4 hbq
  go_upto_region 8 with (go_at_call 43; (with_reducible refine (HUS.out _ HBQ.out).mono ?_); rintro e w2 ⟨rfl, how⟩; have HOW := Lib.hid how; clear how)
  have HMV : Hid (Mv w w2 p mb L s1 mb L) := (Mv.of_below HS.out HBQ.out).trans (Mv.of_own (HS.out.below HBQ.out) HOW.out hkeep.out.1 hkeep.out.2.1 hkeep.out.2.2)
  have c5 : w2.drew.cell? ⟨p, 5, none⟩ = some (.map mb) := (blk_cells HMV.out.st.blk).1.2.2.2.2.2
  obtain ⟨A0, n0, cc, hval⟩ : ∃ A0 n0 cc, valL L k = .slice A0 n0 cc := by
    obtain ⟨A0, cc, e, _⟩ := BAt.of_own (val_row HS.out.rows k); exact ⟨A0, _, cc, e⟩
  have hlk : (Instr.lookup 56 (.map mb) (.string k) false).run Tryz.prog w2.drew = .ok (.slice A0 n0 cc) w2.drew := by
    rw [← hval]; exact lookup_run (w := w2.drew) (L := L) HMV.out.st.map k false
  have HVAL := Lib.hid hval
  have hS0 : w2.drew.cell? ⟨p, 5, none⟩ = some (.map mb) ∧ (Instr.lookup 56 (.map mb) (.string k) false).run Tryz.prog w2.drew = .ok (.slice A0 n0 cc) w2.drew := ⟨c5, hlk⟩
  clear hval c5 hlk
  refine wp_region_two 12 (by kernel_rfl) (by kernel_rfl) ?_
  simp only [List.take_succ_cons, List.take_zero, List.drop_succ_cons, List.drop_zero]
  have HMV3 : Hid (Mv w w2.drew p mb L s1 mb L) := HMV.out.trans (Mv.of_below HMV.out.st (Below.refl _ _).drew)
  generalize w2.drew = w3 at hS0 HMV3 ⊢
  refine wpAny_of_held (S := fun w' => w'.cell? ⟨p, 5, none⟩ = some (.map mb) ∧ (Instr.lookup 56 (.map mb) (.string k) false).run Tryz.prog w' = .ok (.slice A0 n0 cc) w') _ _ _ _ ?_
  refine held_step 0 41 (.pointer (some ⟨p, 0, none⟩)) rfl rfl rfl (by kernel_rfl) (fun _ _ _ h => h) hS0 (fun w1 hS => by obtain ⟨s1, s2⟩ := hS; go_simp) ?_
  simp only [Act.put, List.setIfInBounds_toArray, List.set_cons_succ, List.set_cons_zero]
  refine held_step 1 42 (.string k) rfl rfl rfl (by kernel_rfl) (fun _ _ _ h => h) hS0 (fun w1 hS => by obtain ⟨s1, s2⟩ := hS; go_simp) ?_
  simp only [Act.put, List.setIfInBounds_toArray, List.set_cons_succ, List.set_cons_zero]
  refine held_step 2 43 (.pointer (some ⟨p, 0, none⟩)) rfl rfl rfl (by kernel_rfl) (fun _ _ _ h => h) hS0 (fun w1 hS => by obtain ⟨s1, s2⟩ := hS; go_simp) ?_
  simp only [Act.put, List.setIfInBounds_toArray, List.set_cons_succ, List.set_cons_zero]
  refine held_step 3 44 (.pointer (some ⟨p, 0, none⟩)) rfl rfl rfl (by kernel_rfl) (fun _ _ _ h => h) hS0 (fun w1 hS => by obtain ⟨s1, s2⟩ := hS; go_simp) ?_
  simp only [Act.put, List.setIfInBounds_toArray, List.set_cons_succ, List.set_cons_zero]
  refine held_step 4 45 (.pointer (some ⟨p, 5, none⟩)) rfl rfl rfl (by kernel_rfl) (fun _ _ _ h => h) hS0 (fun w1 hS => by obtain ⟨s1, s2⟩ := hS; go_simp) ?_
  simp only [Act.put, List.setIfInBounds_toArray, List.set_cons_succ, List.set_cons_zero]
  refine held_step 5 46 (.map mb) rfl rfl rfl (by kernel_rfl) (fun _ _ _ h => h) hS0 (fun w1 hS => by obtain ⟨s1, s2⟩ := hS; go_simp) ?_
  simp only [Act.put, List.setIfInBounds_toArray, List.set_cons_succ, List.set_cons_zero]
  refine held_step 6 47 (.string k) rfl rfl rfl (by kernel_rfl) (fun _ _ _ h => h) hS0 (fun w1 hS => by obtain ⟨s1, s2⟩ := hS; go_simp) ?_
  simp only [Act.put, List.setIfInBounds_toArray, List.set_cons_succ, List.set_cons_zero]
  refine held_step 7 48 (.slice A0 n0 cc) rfl rfl rfl (by kernel_rfl) (fun _ _ _ h => h) hS0 (fun w1 hS => by obtain ⟨s1, s2⟩ := hS; go_simp) ?_
  simp only [Act.put, List.setIfInBounds_toArray, List.set_cons_succ, List.set_cons_zero]
  refine held_step 8 49 (.slice A 0 c) rfl rfl rfl (by kernel_rfl) (fun _ _ _ h => h) hS0 (fun w1 hS => by obtain ⟨s1, s2⟩ := hS; go_simp) ?_
  simp only [Act.put, List.setIfInBounds_toArray, List.set_cons_succ, List.set_cons_zero]
  refine held_step 9 50 (.int .i64 0) rfl rfl rfl (by kernel_rfl) (fun _ _ _ h => h) hS0 (fun w1 hS => by obtain ⟨s1, s2⟩ := hS; go_simp) ?_
  simp only [Act.put, List.setIfInBounds_toArray, List.set_cons_succ, List.set_cons_zero]
  obtain ⟨A4, c4, w4, hr4, ho4, hg4, hl4⟩ := app_at w3 (valL L k) (bytL L k) (val_row HMV3.out.st.rows k) (.slice A 0 c) [] ⟨A, c, rfl, Nat.zero_le _, fun h => absurd h (by decide)⟩ (by have := hused0.out; simp only [List.length_nil]; omega)
  rw [List.append_nil] at ho4
  simp only [List.length_nil, Nat.add_zero] at hr4 ho4 hl4
  rw [HVAL.out] at hr4
  obtain ⟨n4, hn4⟩ : ∃ n4, n4 = (bytL L k).length := ⟨_, rfl⟩
  rw [← hn4] at hr4 ho4 hl4
  have HN4 := Lib.hid hn4
  have hput : Calls Tryz.prog 44 #[.pointer (some ⟨p, 0, none⟩), .string k, .slice A4 n4 c4] w4 fun e w' => e = .returned (.tuple #[]) ∧ PutTo w4 w' p s1 mb L k (.slice A4 n4 c4) (bytL L k) n4 := by
    obtain ⟨k1, k2⟩ := app_keeps HMV3.out.st hg4
    refine put_any w4 p mb s1 L k A4 A0 n4 c4 n0 cc (bytL L k) k1 k2 hks HVAL.out ?_ ?_
    · obtain ⟨A9, c9, e, _⟩ := BAt.of_own (val_row HMV3.out.st.rows k)
      rw [HVAL.out] at e; cases e; rfl
    · have h1 := hused0.out
      have h2 := hkeep.out.1
      have h3 : n0 = (bytL L k).length := by
        obtain ⟨A9, c9, e, _⟩ := BAt.of_own (val_row HMV3.out.st.rows k)
        rw [HVAL.out] at e; cases e; rfl
      rw [h2, h3, hn4]; omega
  have HPUT := Lib.hid hput
  have HFIN : Hid (∀ w5, PutTo w4 w5 p s1 mb L k (.slice A4 n4 c4) (bytL L k) n4 → ∃ mb' v', Mv w w5 p mb L { s1 with used := s.used } mb' (putL L k (v', bytL L k))) := by
    intro w5 hP
    rw [hn4] at hP
    obtain ⟨mb', v', hmv⟩ := app_step HMV3.out.st hg4 (by rw [hn4] at ho4; exact ho4) (by rw [hn4] at hl4; exact hl4) (by rw [hkeep.out.2.1]; exact hroomN.out) hP
    refine ⟨mb', v', HMV3.out.trans ?_⟩
    have hs : ({ s1 with used := s1.used + (((bytL L k).length : Int) - ((bytL L k).length : Int)) } : S) = { s1 with used := s.used } := by
      rw [hkeep.out.1]; congr 1; omega
    rw [hs] at hmv; exact hmv
  clear hl4 ho4 hput hn4
  have HG4 := Lib.hid hg4
  have HR4 := Lib.hid hr4
  clear hg4 hr4
  have hS4 : w4.cell? ⟨p, 5, none⟩ = some (.map mb) ∧ (Instr.lookup 56 (.map mb) (.string k) false).run Tryz.prog w4 = .ok (.slice A0 n0 cc) w4 := by
    obtain ⟨k1, k2⟩ := app_keeps HMV3.out.st HG4.out
    exact ⟨(blk_cells k1).1.2.2.2.2.2, by rw [← HVAL.out]; exact lookup_run k2 k false⟩
  refine held_two 10 rfl rfl (by kernel_rfl) ?_
  go_wp2
  refine ⟨hS0, ?_⟩
  refine Lib.wpList_append_run _ rfl _ _ 32 32 rfl _ _ rfl rfl _ _ HR4.out ?_
  simp only [Act.put, List.setIfInBounds_toArray]
  refine ⟨hS4, ?_⟩
  show wpList _ _ _ _ _ _
  go_wp2_with (first
      | (go_at_call 45; (with_reducible refine (HST.out _ _ HMV5.out.st.blk).mono ?_); rintro e w6 ⟨rfl, rfl⟩)
      | (go_at_call 44; (with_reducible refine HPUT.out.mono ?_); rintro e w5 ⟨rfl, hp5⟩
         obtain ⟨mb', v', hmv5⟩ := HFIN.out w5 hp5
         have HMV5 := Lib.hid hmv5
         clear hp5 hmv5))
  go_ret
  exact ⟨rfl, mb', v', HMV5.out⟩
end Go.Proofs.YtjijgoflbjbnfaaGreat.Sr

namespace Go.Proofs.YtjijgoflbjbnfaaGreat.Sr
open Go.RowKit Fr

set_option maxRecDepth 100000 in
set_option maxHeartbeats 1000000 in
theorem read_any (w : World) (p : Nat) (s : S) (mb : Option Nat) (L : List Fi) (k : ByteArray) (h : StR w p s mb L) :
    Calls Tryz.prog 25 #[.pointer (some ⟨p, 0, none⟩), .string k] w fun e w' => ∃ A n c, e = .returned (.tuple #[.slice A n c, .bool (hasL L k)]) ∧ n = (bytL L k).length ∧ w'.ownsRow w.heap.size 5 1 (.slice A n c) (bytL L k).length (bv (bytL L k)) ∧ Below w.heap.size w w' := by
  have HO := Lib.hid (orDown_own w p)
  obtain ⟨⟨_, _, _, _, _, c5⟩, _⟩ := blk_cells h.blk
  have hlk := lookup_run (w := w) h.map k true
  rw [if_pos rfl] at hlk
  have hr := val_row h.rows k
  have hroom := h.room
  have hle := byt_used L k
  have hcl := clone_any w (valL L k) (bytL L k) (BAt.of_own hr) (by omega)
  obtain ⟨A0, n0, cc, hval⟩ : ∃ A0 n0 cc, valL L k = .slice A0 n0 cc := by
    obtain ⟨A0, cc, e, _⟩ := BAt.of_own hr; exact ⟨A0, _, cc, e⟩
  rw [hval] at hlk hcl
  have HCL := Lib.hid hcl
  obtain ⟨q, hq⟩ : ∃ q, q = hasL L k := ⟨_, rfl⟩
  rw [← hq] at hlk ⊢
  clear hr hroom hle hcl hval h hq
  go_enter Tryz.func25, Tryz.ntmps25
  go_wp2_with (first
    | (go_at_call 35; (with_reducible refine HO.out.mono ?_); rintro e w' ⟨rfl, rfl⟩)
    | (go_at_call 38; (with_reducible refine HCL.out.mono ?_); rintro e w3 ⟨v3, rfl, ho3, hb3⟩
       obtain ⟨A4, n4, c4, hv4, hn4⟩ : ∃ A n c, v3 = Value.slice A n c ∧ n = (bytL L k).length := by obtain ⟨A4, c4, hv4, _⟩ := BAt.of_own ho3; exact ⟨A4, _, c4, hv4, rfl⟩
       subst hv4
       have HO3 := Lib.hid ho3
       have HB3 := Lib.hid hb3
       have HN4 := Lib.hid hn4
       clear ho3 hb3 hn4))
  go_ret2
  exact ⟨A4, n4, c4, rfl, HN4.out, HO3.out, HB3.out⟩
end Go.Proofs.YtjijgoflbjbnfaaGreat.Sr

namespace Go.Proofs.YtjijgoflbjbnfaaGreat.Sr
open Go.RowKit Fr

def u8s (l : List Int) : List UInt8 := l.map fun x => UInt8.ofNat x.toNat
def strOf (l : List Int) : ByteArray := ⟨(u8s l).toArray⟩
theorem conv_any {w : World} {u : Value} {l : List Int} (h : BAt w u l) (hb : bok l) : (convert 32 9 u).run Tryz.prog w = .ok (.string (strOf l)) w := by
  obtain ⟨A, cap, rfl, _, hc⟩ := h
  have hl : (u8s l).length = l.length := by simp [u8s]
  cases A with
  | none =>
    cases l with
    | nil => exact Lib.run_convert_nil_bytes w 32 9 5 cap Tryz.underlying32 Tryz.underlying5 Tryz.underlying9
    | cons x r => obtain ⟨g, o, h1, _⟩ := hc (by simp); cases h1
  | some a =>
    have := run_convert_bytes_back (P := Tryz.prog) w 32 9 5 a cap (u8s l) Tryz.underlying32 Tryz.underlying5 Tryz.underlying9 (fun j hj => by
      rw [hl] at hj
      obtain ⟨g, o, h1, _, h3⟩ := hc (by omega)
      cases h1
      rw [show (Addr.mk g o none).add j = ⟨g, o + j, none⟩ by unfold Addr.add; split <;> simp_all, h3 j hj]
      have hx : l.getD j 0 = l[j] := by simp [List.getD, List.getElem?_eq_getElem hj]
      have := hb l[j] (List.getElem_mem hj)
      rw [hx]
      simp [u8s]
      omega)
    rw [hl] at this
    exact this
/-- Bytes that lie in no block of T. -/
def Free (T : Nat → Prop) (v : Value) : Prop := ∀ a n c, v = .slice (some a) n c → ¬ T a.block
theorem bat_off {T : Nat → Prop} {w w' : World} {v : Value} {l : List Int} (h : BAt w v l) (ho : Off T w w') (hf : Free T v) : BAt w' v l := by
  obtain ⟨A, cap, rfl, h2, h3⟩ := h
  refine ⟨A, cap, rfl, h2, fun hp => ?_⟩
  obtain ⟨g, o, h4, h5, h6⟩ := h3 hp
  refine ⟨g, o, h4, Nat.lt_of_lt_of_le h5 ho.1.size, fun i hi => ?_⟩
  subst h4
  rw [World.cell?_of_block (w := w) (ho.2 g h5 (hf _ _ _ rfl))]; exact h6 i hi
theorem own_nil {p i : Nat} (h : own p none [] i) : i = p := by
  rcases h with h | h | ⟨x, hx, _⟩
  · exact h
  · cases h
  · cases hx
/-- A row that was laid behind a store's blocks is free of them. -/
theorem free_new {w w' : World} {p : Nat} {s : S} {mb : Option Nat} {L : List Fi} {v : Value} {n : Nat} {xs : List Value} (h : StR w p s mb L) (ho : w'.ownsRow w.heap.size 5 1 v n xs) : Free (own p mb L) v := by
  rintro a m c rfl hi
  have := (ho.lt a.block rfl).1
  have := own_lt h hi
  omega

theorem Arm_any (w : World) (p : Nat) (s : S) (mb : Option Nat) (L : List Fi) (n : Int) (h : StR w p s mb L) (hn : n ≤ 9223372036854775807) :
    Calls Tryz.prog 13 #[.pointer (some ⟨p, 0, none⟩), .int .i64 n] w fun e w' => e = .returned (.tuple #[]) ∧ Mv w w' p mb L (armS s n) mb L := by
  refine (Arm_own w p s mb n h.blk).mono ?_
  rintro e w' ⟨rfl, ho⟩
  exact ⟨rfl, Mv.of_own h ho rfl rfl fun e => ⟨of_decide_eq_true e, hn⟩⟩
theorem Revive_any (w : World) (p : Nat) (s : S) (mb : Option Nat) (L : List Fi) (h : StR w p s mb L) :
    Calls Tryz.prog 14 #[.pointer (some ⟨p, 0, none⟩)] w fun e w' => e = .returned (.tuple #[]) ∧ Mv w w' p mb L { s with a := false, n := 0, d := false } mb L := by
  refine (Revive_own w p s mb h.blk).mono ?_
  rintro e w' ⟨rfl, ho⟩
  exact ⟨rfl, Mv.of_own h ho rfl rfl fun e => by cases e⟩
theorem new_any (w : World) (n : Int) (h0 : 0 ≤ n) (h1 : n ≤ 1048576) :
    Calls Tryz.prog 8 #[.int .i64 n] w fun e w' => e = .returned (.tuple #[.pointer (some ⟨w.heap.size, 0, none⟩), .int .i64 0]) ∧ StR w' w.heap.size ⟨false, 0, false, n, 0⟩ none [] ∧ Below w.heap.size w w' ∧ w.heap.size < w'.heap.size := by
  refine (new_ok w n h0 h1).mono ?_
  rintro e w' ⟨rfl, rfl⟩
  exact ⟨rfl, ⟨block_new _ _, rfl, fun x hx => (by cases hx), List.Pairwise.nil, List.Pairwise.nil, rfl, ⟨h0, h1⟩, fun e => by cases e⟩, (Below.refl _ _).alloc (Nat.le_refl _) _, by simp⟩

/-- Bytes that the call has laid ahead of a change. -/
theorem lit_free {w : World} {p : Nat} {s : S} {mb : Option Nat} {L : List Fi} (h : StR w p s mb L) (l : List Int) (fr : Nat × Nat) :
    StR (w.alloc (.cells (bv l).toArray 5 fr)) p s mb L ∧ ∀ w', Off (own p mb L) (w.alloc (.cells (bv l).toArray 5 fr)) w' → BAt w' (.slice (some ⟨w.heap.size, 0, none⟩) l.length l.length) l := by
  refine ⟨h.below ((Below.refl _ _).alloc (Nat.le_refl _) _), fun w' ho => bat_off (lit_at w l fr) ho ?_⟩
  rintro a n c e hi
  cases e
  have := own_lt h hi
  exact absurd this (Nat.lt_irrefl _)
theorem mv_alloc {w w' : World} {o : Obj} {p : Nat} {mb mb' : Option Nat} {L L' : List Fi} {s s' : S} (hs : StR w p s mb L) (h : Mv (w.alloc o) w' p mb L s' mb' L') : Mv w w' p mb L s' mb' L' :=
  (Mv.of_below hs ((Below.refl _ _).alloc (Nat.le_refl _) _)).trans h

theorem okLog : rdy false [({ data := #[108, 111, 103] } : ByteArray)] = 0 := by decide

theorem k_app1 (w : World) (p : Nat) (h : StR w p ⟨true, 2, false, 10, 0⟩ none []) :
    Calls Tryz.prog 90 #[.pointer (some ⟨p, 0, none⟩), .string ({ data := #[108, 111, 103] } : ByteArray), .slice (some ⟨w.heap.size, 0, none⟩) 3 3] (w.alloc (.cells #[.int .u8 97, .int .u8 98, .int .u8 99] 5 (3, 4))) fun e w' =>
      e = .returned (.int .i64 14) ∧ ∃ mb v, Mv w w' p none [] ⟨true, 0, true, 10, 2⟩ mb [(({ data := #[108, 111, 103] } : ByteArray), v, [97, 98])] := by
  obtain ⟨h1, h2⟩ := lit_free h [97, 98, 99] (3, 4)
  have := append_put _ p _ none [] ({ data := #[108, 111, 103] } : ByteArray) _ 3 3 [97, 98, 99] 2 h1 okLog (by decide) (by decide) rfl (by simp [useN]) (by decide) h2
  refine this.mono ?_
  rintro e w' ⟨rfl, mb', v', hm⟩
  exact ⟨by simp [useS, dwn], mb', v', mv_alloc h hm⟩
theorem k_app2 (w : World) (p : Nat) (mb : Option Nat) (v : Value) (h : StR w p ⟨false, 0, false, 10, 2⟩ mb [(({ data := #[108, 111, 103] } : ByteArray), v, [97, 98])]) :
    Calls Tryz.prog 90 #[.pointer (some ⟨p, 0, none⟩), .string ({ data := #[108, 111, 103] } : ByteArray), .slice (some ⟨w.heap.size, 0, none⟩) 1 1] (w.alloc (.cells #[.int .u8 99] 5 (1, 2))) fun e w' =>
      e = .returned (.int .i64 0) ∧ ∃ mb' v', Mv w w' p mb [(({ data := #[108, 111, 103] } : ByteArray), v, [97, 98])] ⟨false, 0, false, 10, 3⟩ mb' [(({ data := #[108, 111, 103] } : ByteArray), v', [97, 98, 99])] := by
  obtain ⟨h1, h2⟩ := lit_free h [99] (1, 2)
  have := append_put _ p _ mb _ ({ data := #[108, 111, 103] } : ByteArray) _ 1 1 [99] 1 h1 okLog (by decide) (by decide) rfl (by simp [useN]) (by decide) h2
  refine this.mono ?_
  rintro e w' ⟨rfl, mb', v', hm⟩
  refine ⟨by simp [useS, dwn], mb', v', ?_⟩
  have e2 : putL [(({ data := #[108, 111, 103] } : ByteArray), v, [97, 98])] ({ data := #[108, 111, 103] } : ByteArray) (v', bytL [(({ data := #[108, 111, 103] } : ByteArray), v, [97, 98])] ({ data := #[108, 111, 103] } : ByteArray) ++ [99].take 1) = [(({ data := #[108, 111, 103] } : ByteArray), v', [97, 98, 99])] := by simp [putL, bytL]
  rw [e2] at hm
  exact mv_alloc h hm
theorem k_wri (w : World) (p : Nat) (mb : Option Nat) (v : Value) (h : StR w p ⟨true, 0, false, 10, 3⟩ mb [(({ data := #[108, 111, 103] } : ByteArray), v, [97, 98, 99])]) :
    Calls Tryz.prog 23 #[.pointer (some ⟨p, 0, none⟩), .string ({ data := #[108, 111, 103] } : ByteArray), .slice none 0 0] w fun e w' =>
      e = .returned (.int .i64 14) ∧ Mv w w' p mb [(({ data := #[108, 111, 103] } : ByteArray), v, [97, 98, 99])] ⟨true, 0, true, 10, 3⟩ mb [(({ data := #[108, 111, 103] } : ByteArray), v, [97, 98, 99])] := by
  have := write_down _ p _ mb _ ({ data := #[108, 111, 103] } : ByteArray) none 0 0 h okLog (by simp [bytL]) (by decide) (by simp [useN])
  refine this.mono ?_
  rintro e w' ⟨rfl, hm⟩
  refine ⟨by simp [useS, dwn], ?_⟩
  have e1 : useS ⟨true, 0, false, 10, 3⟩ (1 + ((0 : Nat) : Int)) = ⟨true, 0, true, 10, 3⟩ := by simp [useS]
  rw [e1] at hm
  exact hm
theorem k_read (w : World) (p : Nat) (s : S) (mb : Option Nat) (v : Value) (l : List Int) (n : Nat) (hn : l.length = n) (h : StR w p s mb [(({ data := #[108, 111, 103] } : ByteArray), v, l)]) :
    Calls Tryz.prog 25 #[.pointer (some ⟨p, 0, none⟩), .string ({ data := #[108, 111, 103] } : ByteArray)] w fun e w' => ∃ A c, e = .returned (.tuple #[.slice A n c, .bool true]) ∧ BAt w' (.slice A n c) l ∧ Free (own p mb [(({ data := #[108, 111, 103] } : ByteArray), v, l)]) (.slice A n c) ∧ Below w.heap.size w w' := by
  refine (read_any w p s mb _ ({ data := #[108, 111, 103] } : ByteArray) h).mono ?_
  rintro e w' ⟨A, m, c, rfl, hm, ho, hb⟩
  have e1 : hasL [(({ data := #[108, 111, 103] } : ByteArray), v, l)] ({ data := #[108, 111, 103] } : ByteArray) = true := by simp [hasL]
  have e2 : bytL [(({ data := #[108, 111, 103] } : ByteArray), v, l)] ({ data := #[108, 111, 103] } : ByteArray) = l := by simp [bytL]
  rw [e2] at hm ho
  have hmn : m = n := hm.trans hn
  subst hmn
  rw [e1]
  exact ⟨A, c, rfl, BAt.of_own ho, free_new h ho, hb⟩

end Go.Proofs.YtjijgoflbjbnfaaGreat.Sr

namespace Go.Proofs.YtjijgoflbjbnfaaGreat.Sr
open Go.RowKit Fr

def dv : Value := .slice none 0 0
theorem Alike.refl (L : List Fi) : Alike L L := fun _ => ⟨rfl, rfl⟩
theorem Alike.symm {L L' : List Fi} (h : Alike L L') : Alike L' L := fun k => ⟨(h k).1.symm, (h k).2.symm⟩
theorem Alike.trans {L L' L'' : List Fi} (h : Alike L L') (h' : Alike L' L'') : Alike L L'' := fun k => ⟨(h' k).1.trans (h k).1, (h' k).2.trans (h k).2⟩
theorem Alike.put {L L' : List Fi} (h : Alike L L') (k : ByteArray) (v v' : Value) (l : List Int) : Alike (putL L k (v, l)) (putL L' k (v', l)) := fun j => by
  rw [has_put, has_put, byt_put, byt_put, (h j).1, (h j).2]
  exact ⟨rfl, rfl⟩
theorem Alike.del {L L' : List Fi} (h : Alike L L') (hk : KeysL L) (hk' : KeysL L') (k : ByteArray) : Alike (delL L k) (delL L' k) := fun j => by
  rw [has_del hk, has_del hk', byt_del hk, byt_del hk', (h j).1, (h j).2]
  exact ⟨rfl, rfl⟩
theorem keys_put {L : List Fi} (h : KeysL L) (k : ByteArray) (z : Value × List Int) : KeysL (putL L k z) := pair_put _ h h fun _ _ hn => ⟨hn, hn.symm⟩
theorem keys_del {L : List Fi} (h : KeysL L) (k : ByteArray) : KeysL (delL L k) := h.sublist (del_sub L k)

/-- Behind a step: these cells; files that are alike these. -/
def Mo (w w' : World) (p : Nat) (mb : Option Nat) (L : List Fi) (s' : S) (Lc : List Fi) : Prop := ∃ mb' L', Mv w w' p mb L s' mb' L' ∧ Alike Lc L'
theorem Mo.of {w w' : World} {p : Nat} {mb mb' : Option Nat} {L L' : List Fi} {s' : S} (h : Mv w w' p mb L s' mb' L') : Mo w w' p mb L s' L' := ⟨mb', L', h, Alike.refl _⟩

/-! ### Append -/
def appB (s : S) (k : ByteArray) (m : Nat) : Prop := rdy s.d [k] = 0 ∧ ¬ s.room < s.used + m
instance (s : S) (k : ByteArray) (m : Nat) : Decidable (appB s k m) := inferInstanceAs (Decidable (_ ∧ _))
def appE (s : S) (k : ByteArray) (m : Nat) : Int := if rdy s.d [k] ≠ 0 then rdy s.d [k] else if s.room < s.used + m then 7 else dwn (useS s m)
def appS (s : S) (k : ByteArray) (m : Nat) : S := if appB s k m then (if 0 < useN s m ∨ m = 0 then { useS s m with used := s.used + useN s m } else useS s m) else s
def appL (s : S) (L : List Fi) (k : ByteArray) (bs : List Int) : List Fi := if appB s k bs.length then (if 0 < useN s bs.length ∨ bs.length = 0 then putL L k (dv, bytL L k ++ bs.take (useN s bs.length).toNat) else L) else L
theorem Append_any {w : World} {p : Nat} {s : S} {mb : Option Nat} {L : List Fi} (k : ByteArray) {A : Option Addr} {n c : Nat} {bs : List Int} (h : StR w p s mb L) (hn : n ≤ 1000000) (hbs : bs.length = n) (hv : ∀ w', Off (own p mb L) w w' → BAt w' (.slice A n c) bs) :
    Calls Tryz.prog 90 #[.pointer (some ⟨p, 0, none⟩), .string k, .slice A n c] w fun e w' => e = .returned (.int .i64 (appE s k n)) ∧ Mo w w' p mb L (appS s k n) (appL s L k bs) := by
  subst hbs
  unfold appE appS appL
  by_cases hr : rdy s.d [k] = 0
  · by_cases hf : s.room < s.used + (bs.length : Int)
    · refine (append_full w p s mb L k A _ c h hr hf hn).mono ?_
      rintro e w' ⟨rfl, hm⟩
      rw [if_neg (fun h => h hr), if_pos hf, if_neg (fun h => h.2 hf), if_neg (fun h => h.2 hf)]
      exact ⟨rfl, Mo.of hm⟩
    · have hB : appB s k bs.length := ⟨hr, hf⟩
      rw [if_neg (fun h => h hr), if_neg hf, if_pos hB, if_pos hB]
      have hu := useN_le s bs.length h.left
      by_cases h0 : bs.length = 0
      · have hz : useN s (bs.length : Int) = 0 := by omega
        rw [if_pos (.inr h0), if_pos (.inr h0), hz, h0]
        rw [h0] at hv
        refine (append_zero w p s mb L k A c h hr).mono ?_
        rintro e w' ⟨rfl, mb', v', hm⟩
        refine ⟨rfl, mb', putL L k (v', bytL L k), ?_, ?_⟩
        · have e1 : s.used + 0 = s.used := Int.add_zero _
          rw [e1]; exact hm
        · rw [show bytL L k ++ bs.take (0 : Int).toNat = bytL L k by simp]
          exact (Alike.refl L).put k dv v' _
      · by_cases hm : useN s (bs.length : Int) = 0
        · rw [if_neg (by omega), if_neg (by omega)]
          refine (append_down w p s mb L k A _ c h hr hf hn (by omega) hm).mono ?_
          rintro e w' ⟨rfl, hmv⟩
          exact ⟨rfl, Mo.of hmv⟩
        · rw [if_pos (.inl (by omega)), if_pos (.inl (by omega))]
          obtain ⟨m, hm2⟩ : ∃ m : Nat, useN s (bs.length : Int) = (m : Int) := ⟨(useN s (bs.length : Int)).toNat, by omega⟩
          rw [hm2]
          refine (append_put w p s mb L k A _ c bs m h hr hf hn rfl hm2 (by omega) hv).mono ?_
          rintro e w' ⟨rfl, mb', v', hmv⟩
          exact ⟨rfl, mb', _, hmv, (Alike.refl L).put k dv v' _⟩
  · refine (append_bad w p s mb L k (.slice A bs.length c) h hr).mono ?_
    rintro e w' ⟨rfl, hm⟩
    rw [if_pos hr, if_neg (fun h => hr h.1), if_neg (fun h => hr h.1)]
    exact ⟨rfl, Mo.of hm⟩

/-! ### Write -/
def wriB (s : S) (L : List Fi) (k : ByteArray) (m : Nat) : Prop := rdy s.d [k] = 0 ∧ ¬ s.room < s.used - ((bytL L k).length : Int) + m
instance (s : S) (L : List Fi) (k : ByteArray) (m : Nat) : Decidable (wriB s L k m) := inferInstanceAs (Decidable (_ ∧ _))
def wriE (s : S) (L : List Fi) (k : ByteArray) (m : Nat) : Int := if rdy s.d [k] ≠ 0 then rdy s.d [k] else if s.room < s.used - ((bytL L k).length : Int) + m then 7 else dwn (useS s (1 + (m : Int)))
def wriS (s : S) (L : List Fi) (k : ByteArray) (m : Nat) : S := if wriB s L k m then (if 0 < useN s (1 + (m : Int)) then { useS s (1 + (m : Int)) with used := s.used + (useN s (1 + (m : Int)) - 1 - ((bytL L k).length : Int)) } else useS s (1 + (m : Int))) else s
def wriL (s : S) (L : List Fi) (k : ByteArray) (bs : List Int) : List Fi := if wriB s L k bs.length then (if 0 < useN s (1 + (bs.length : Int)) then putL L k (dv, bs.take (useN s (1 + (bs.length : Int)) - 1).toNat) else L) else L
theorem Write_any {w : World} {p : Nat} {s : S} {mb : Option Nat} {L : List Fi} (k : ByteArray) {A : Option Addr} {n c : Nat} {bs : List Int} (h : StR w p s mb L) (hn : n ≤ 1000000) (hbs : bs.length = n) (hv : ∀ w', Off (own p mb L) w w' → BAt w' (.slice A n c) bs) :
    Calls Tryz.prog 23 #[.pointer (some ⟨p, 0, none⟩), .string k, .slice A n c] w fun e w' => e = .returned (.int .i64 (wriE s L k n)) ∧ Mo w w' p mb L (wriS s L k n) (wriL s L k bs) := by
  subst hbs
  unfold wriE wriS wriL
  by_cases hr : rdy s.d [k] = 0
  · by_cases hf : s.room < s.used - ((bytL L k).length : Int) + (bs.length : Int)
    · refine (write_full w p s mb L k A _ c h hr hf hn).mono ?_
      rintro e w' ⟨rfl, hm⟩
      rw [if_neg (fun h => h hr), if_pos hf, if_neg (fun h => h.2 hf), if_neg (fun h => h.2 hf)]
      exact ⟨rfl, Mo.of hm⟩
    · have hB : wriB s L k bs.length := ⟨hr, hf⟩
      rw [if_neg (fun h => h hr), if_neg hf, if_pos hB, if_pos hB]
      have hu := useN_le s (1 + bs.length) h.left
      have hc : ((1 + bs.length : Nat) : Int) = 1 + (bs.length : Int) := by omega
      rw [hc] at hu
      by_cases hm : useN s (1 + (bs.length : Int)) = 0
      · rw [if_neg (by omega), if_neg (by omega)]
        refine (write_down w p s mb L k A _ c h hr hf hn hm).mono ?_
        rintro e w' ⟨rfl, hmv⟩
        exact ⟨rfl, Mo.of hmv⟩
      · rw [if_pos (by omega), if_pos (by omega)]
        obtain ⟨m, hm2⟩ : ∃ m : Nat, useN s (1 + (bs.length : Int)) = (m : Int) + 1 := ⟨(useN s (1 + (bs.length : Int)) - 1).toNat, by omega⟩
        have e2 : useN s (1 + (bs.length : Int)) - 1 = (m : Int) := by omega
        rw [e2]
        refine (write_put w p s mb L k A _ c bs m h hr hf hn rfl hm2 hv).mono ?_
        rintro e w' ⟨rfl, mb', v', hmv⟩
        exact ⟨rfl, mb', _, hmv, (Alike.refl L).put k dv v' _⟩
  · refine (write_bad w p s mb L k (.slice A bs.length c) h hr).mono ?_
    rintro e w' ⟨rfl, hm⟩
    rw [if_pos hr, if_neg (fun h => hr h.1), if_neg (fun h => hr h.1)]
    exact ⟨rfl, Mo.of hm⟩

theorem use_one (s : S) (h : s.a = true → 0 ≤ s.n ∧ s.n ≤ 9223372036854775807) (h0 : useN s 1 ≠ 1) : useN s 1 = 0 := by
  have := useN_le s 1 h
  have e : ((1 : Nat) : Int) = 1 := rfl
  rw [e] at this; omega

/-! ### Cut -/
def cutE (s : S) (L : List Fi) (k : ByteArray) (x : Int) : Int := if fnd s.d L k [k] ≠ 0 then fnd s.d L k [k] else if x < 0 ∨ ((bytL L k).length : Int) < x then 1 else dwn (useS s 1)
def cutB (s : S) (L : List Fi) (k : ByteArray) (x : Int) : Prop := fnd s.d L k [k] = 0 ∧ ¬ (x < 0 ∨ ((bytL L k).length : Int) < x)
instance (s : S) (L : List Fi) (k : ByteArray) (x : Int) : Decidable (cutB s L k x) := inferInstanceAs (Decidable (_ ∧ _))
def cutS (s : S) (L : List Fi) (k : ByteArray) (x : Int) : S := if cutB s L k x then (if useN s 1 = 1 then { useS s 1 with used := s.used + (x - ((bytL L k).length : Int)) } else useS s 1) else s
def cutL (s : S) (L : List Fi) (k : ByteArray) (x : Int) : List Fi := if cutB s L k x then (if useN s 1 = 1 then putL L k (dv, (bytL L k).take x.toNat) else L) else L
theorem Cut_any {w : World} {p : Nat} {s : S} {mb : Option Nat} {L : List Fi} (k : ByteArray) (x : Int) (h : StR w p s mb L) :
    Calls Tryz.prog 52 #[.pointer (some ⟨p, 0, none⟩), .string k, .int .i64 x] w fun e w' => e = .returned (.int .i64 (cutE s L k x)) ∧ Mo w w' p mb L (cutS s L k x) (cutL s L k x) := by
  unfold cutE cutS cutL
  by_cases hr : fnd s.d L k [k] = 0
  · by_cases hf : x < 0 ∨ ((bytL L k).length : Int) < x
    · refine (cut_arg w p s mb L k x h hr hf).mono ?_
      rintro e w' ⟨rfl, hm⟩
      rw [if_neg (fun h => h hr), if_pos hf, if_neg (fun h => h.2 hf), if_neg (fun h => h.2 hf)]
      exact ⟨rfl, Mo.of hm⟩
    · have hB : cutB s L k x := ⟨hr, hf⟩
      rw [if_neg (fun h => h hr), if_neg hf, if_pos hB, if_pos hB]
      by_cases hm : useN s 1 = 1
      · rw [if_pos hm, if_pos hm]
        obtain ⟨m, hm2⟩ : ∃ m : Nat, x = (m : Int) := ⟨x.toNat, by omega⟩
        refine (cut_put w p s mb L k x m h hr hm2 (by omega) hm).mono ?_
        rintro e w' ⟨rfl, mb', v', hmv⟩
        subst hm2
        exact ⟨rfl, mb', _, hmv, (Alike.refl L).put k dv v' _⟩
      · rw [if_neg hm, if_neg hm]
        refine (cut_down w p s mb L k x h hr (by omega) (use_one s h.left hm)).mono ?_
        rintro e w' ⟨rfl, hmv⟩
        exact ⟨rfl, Mo.of hmv⟩
  · refine (cut_bad w p s mb L k x h hr).mono ?_
    rintro e w' ⟨rfl, hm⟩
    rw [if_pos hr, if_neg (fun h => hr h.1), if_neg (fun h => hr h.1)]
    exact ⟨rfl, Mo.of hm⟩

/-! ### Rename -/
def renE (s : S) (L : List Fi) (k tn : ByteArray) : Int := if fnd s.d L k [tn, k] ≠ 0 then fnd s.d L k [tn, k] else dwn (useS s 1)
def renL (s : S) (L : List Fi) (k tn : ByteArray) : List Fi := if fnd s.d L k [tn, k] = 0 ∧ useN s 1 = 1 then putL (delL L k) tn (dv, bytL L k) else L
def renS (s : S) (L : List Fi) (k tn : ByteArray) : S := if fnd s.d L k [tn, k] = 0 then { useS s 1 with used := (usedL (renL s L k tn) : Int) } else s
theorem used_alike {w : World} {p : Nat} {s : S} {mb : Option Nat} {L Lc : List Fi} (h : StR w p s mb L) (hk : KeysL Lc) (ha : Alike Lc L) : s.used = usedL Lc := by
  rw [h.used, same_used hk h.keys ha]
theorem Rename_any {w : World} {p : Nat} {s : S} {mb : Option Nat} {L : List Fi} (k tn : ByteArray) (h : StR w p s mb L) :
    Calls Tryz.prog 92 #[.pointer (some ⟨p, 0, none⟩), .string k, .string tn] w fun e w' => e = .returned (.int .i64 (renE s L k tn)) ∧ Mo w w' p mb L (renS s L k tn) (renL s L k tn) := by
  unfold renE renS
  by_cases hr : fnd s.d L k [tn, k] = 0
  · rw [if_neg (fun h => h hr), if_pos hr]
    by_cases hm : useN s 1 = 1
    · have hL : renL s L k tn = putL (delL L k) tn (dv, bytL L k) := by unfold renL; rw [if_pos ⟨hr, hm⟩]
      have htn : tn.size ≤ 12 := by
        have h1 := (fnd_of hr).1
        unfold rdy at h1
        split at h1
        · cases h1
        · split at h1
          · rename_i h2
            simp only [List.all_cons, Bool.and_eq_true] at h2
            have h3 := h2.1
            unfold okN at h3
            simp only [Bool.and_eq_true, decide_eq_true_eq] at h3
            exact h3.1.2
          · cases h1
      refine (rename_put w p s mb L k tn h hr hm (fnd_of hr).2 htn).mono ?_
      rintro e w' ⟨rfl, mb', hmv⟩
      have hal : Alike (renL s L k tn) (putL (delL L k) tn (valL L k, bytL L k)) := by rw [hL]; exact (Alike.refl _).put tn dv _ _
      have hu : usedL (renL s L k tn) = usedL (putL (delL L k) tn (valL L k, bytL L k)) := (same_used (by rw [hL]; exact keys_put (keys_del h.keys k) _ _) hmv.st.keys hal).symm
      rw [hu]
      exact ⟨rfl, mb', _, hmv, hal⟩
    · have hL : renL s L k tn = L := by unfold renL; rw [if_neg (fun h => hm h.2)]
      rw [hL]
      refine (rename_down w p s mb L k tn h hr (use_one s h.left hm)).mono ?_
      rintro e w' ⟨rfl, hmv⟩
      have hu := hmv.st.used
      refine ⟨rfl, mb, L, ?_, Alike.refl _⟩
      rw [← hu]
      exact hmv
  · have hL : renL s L k tn = L := by unfold renL; rw [if_neg (fun h => hr h.1)]
    rw [hL]
    refine (rename_bad w p s mb L k tn h hr).mono ?_
    rintro e w' ⟨rfl, hm⟩
    rw [if_pos hr, if_neg hr]
    exact ⟨rfl, Mo.of hm⟩

/-! ### drop -/
def drpE (s : S) (L : List Fi) (k : ByteArray) : Int := if fnd s.d L k [k] ≠ 0 then fnd s.d L k [k] else dwn (useS s 1)
def drpS (s : S) (L : List Fi) (k : ByteArray) : S := if fnd s.d L k [k] = 0 then (if useN s 1 = 1 then { useS s 1 with used := s.used - ((bytL L k).length : Int) } else useS s 1) else s
def drpL (s : S) (L : List Fi) (k : ByteArray) : List Fi := if fnd s.d L k [k] = 0 ∧ useN s 1 = 1 then delL L k else L
end Go.Proofs.YtjijgoflbjbnfaaGreat.Sr
