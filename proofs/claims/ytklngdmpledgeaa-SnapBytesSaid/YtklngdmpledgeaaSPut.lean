/-
  What a change leaves alone; the contracts of strings.Clone and put. Conditions: a name of at most twelve bytes.
-/
import Derived.Test.YtklngdmpledgeaaPB11
import Derived.Test.YtklngdmpledgeaaShelf
import Derived.Test.YtklngdmpledgeaaPB12
import Derived.Deep.RegionHeld3
namespace Go.Proofs.Ytklngdmpledgeaa.Sr
open Go.RowKit Fr

/-- Of what there was, blocks of T alone may have turned. -/
def Off (T : Nat → Prop) (w w' : World) : Prop := Below 0 w w' ∧ ∀ i, i < w.heap.size → ¬ T i → w'.heap[i]? = w.heap[i]?
theorem Off.refl (T : Nat → Prop) (w : World) : Off T w w := ⟨Below.refl _ _, fun _ _ _ => rfl⟩
theorem Off.trans {T T' : Nat → Prop} {a b c : World} (h : Off T a b) (k : Off T' b c) (hT : ∀ i, T' i → T i ∨ a.heap.size ≤ i) : Off T a c :=
  ⟨h.1.trans k.1, fun i hi hn => (k.2 i (Nat.lt_of_lt_of_le hi h.1.size) (fun h2 => (hT i h2).elim hn (fun h3 => by omega))).trans (h.2 i hi hn)⟩
theorem Off.of_below (T : Nat → Prop) {w w' : World} (h : Below w.heap.size w w') : Off T w w' := ⟨h.mono (Nat.zero_le _), fun i hi _ => h.block i hi⟩
theorem Off.of_grown {T : Nat → Prop} {w w' : World} {r : Option Nat} (h : w.grownBy w' r) (hT : ∀ i, r = some i → T i) : Off T w w' :=
  ⟨⟨h.os, h.tape, h.output, h.size, fun _k hk => absurd hk (Nat.not_lt_zero _)⟩, fun i hi hn => h.block i hi (fun e => hn (hT i e.symm))⟩
theorem Off.below {T : Nat → Prop} {w w' : World} {n0 : Nat} (h : Off T w w') (hT : ∀ i, T i → n0 ≤ i) (hn : n0 ≤ w.heap.size) : Below n0 w w' :=
  ⟨h.1.os, h.1.tape, h.1.output, h.1.size, fun k hk => h.2 k (by omega) (fun ht => by have := hT k ht; omega)⟩
theorem Off.drew {T : Nat → Prop} {w w' : World} (h : Off T w w') : Off T w w'.drew := ⟨h.1.drew, h.2⟩
theorem Off.mono {T T' : Nat → Prop} {w w' : World} (h : Off T w w') (hT : ∀ i, T i → T' i) : Off T' w w' := ⟨h.1, fun i hi hn => h.2 i hi (fun ht => hn (hT i ht))⟩

theorem MapO.kept {w w' : World} {mb : Option Nat} {L : List Fi} (h : MapO w mb L) (hb : ∀ b, mb = some b → w'.heap[b]? = w.heap[b]?) : MapO w' mb L := by
  cases mb with
  | none => exact h
  | some b =>
    obtain ⟨es, c, h1, h2⟩ := h
    exact ⟨es, c, (hb b rfl).trans h1, h2⟩
theorem MapO.lt {w : World} {b : Nat} {L : List Fi} (h : MapO w (some b) L) : b < w.heap.size := by
  obtain ⟨es, c, h1, _⟩ := h; exact (Array.getElem?_eq_some_iff.1 h1).1
theorem MapO.ne {w : World} {p b : Nat} {L : List Fi} {s : S} {mb : Option Nat} (h : MapO w (some b) L) (hp : w.heap[p]? = some (blk s mb)) : p ≠ b := by
  rintro rfl
  obtain ⟨es, c, h1, _⟩ := h
  rw [hp] at h1; cases h1

set_option maxRecDepth 100000 in
theorem clones_any (w : World) (s : ByteArray) (hs : s.size ≤ 281474976710656) : Calls Try.prog 109 #[.string s] w fun e w' => e = .returned (.string s) ∧ Below w.heap.size w w' := by
  have HC := Lib.hid (Try.stringslite_Clone s w hs)
  go_enter Try.func109, Try.ntmps109
  go_wp2_with (go_at_call 145; refine HC.out.mono ?_; rintro e w' ⟨rfl, hb⟩)
  go_ret
  exact ⟨rfl, hb⟩

/-- What put leaves. -/
def PutTo (w w' : World) (p : Nat) (s : S) (mb : Option Nat) (L : List Fi) (k : ByteArray) (v : Value) (bs : List Int) (n : Nat) : Prop :=
  ∃ b', w'.heap[p]? = some (blk { s with used := s.used + ((n : Int) - ((bytL L k).length : Int)) } (some b')) ∧ MapR w' b' (putL L k (v, bs)) ∧ (mb = some b' ∨ (mb = none ∧ w.heap.size ≤ b')) ∧ Off (fun i => i = p ∨ mb = some i) w w'

theorem MapO.below {w w' : World} {mb : Option Nat} {L : List Fi} (h : MapO w mb L) (hb : Below w.heap.size w w') : MapO w' mb L :=
  h.kept fun b e => hb.block b (by subst e; exact h.lt)
theorem look_in {w : World} {mb : Option Nat} {L : List Fi} (h : MapO w mb L) (k : ByteArray) (c : Bool) (p : InW w) :
    (Instr.lookup 94 (.map mb) (.string k) c).run Try.prog p.val = .ok (if c then .tuple #[valL L k, .bool (hasL L k)] else valL L k) p.val := lookup_run (h.below p.bel) k c

set_option maxRecDepth 100000 in
set_option maxHeartbeats 2000000 in
theorem put_some (w : World) (p b : Nat) (s : S) (L : List Fi) (k : ByteArray) (A A0 : Option Addr) (n c n0 cc : Nat) (bs : List Int) (h : w.heap[p]? = some (blk s (some b))) (hm : MapR w b L) (hk : k.size ≤ 12)
    (hv : valL L k = .slice A0 n0 cc) (hn0 : n0 = (bytL L k).length) (hb : 0 ≤ s.used ∧ s.used ≤ 4000000 ∧ n0 ≤ 4000000 ∧ n ≤ 4000000) :
    Calls Try.prog 62 #[.pointer (some ⟨p, 0, none⟩), .string k, .slice A n c] w fun e w' => e = .returned (.tuple #[]) ∧ PutTo w w' p s (some b) L k (.slice A n c) bs n := by
  have d5 := (blk_cells h).1.2.2.2.2.2
  obtain ⟨u, hu⟩ : ∃ u, u = s.used := ⟨_, rfl⟩
  have d4 := (blk_cells h).1.2.2.2.2.1
  have HW := Lib.hid h
  have HM := Lib.hid hm
  have hlk : ∀ q : InW w, (Instr.lookup 94 (.map (some b)) (.string k) false).run Try.prog q.val = .ok (.slice A0 n0 cc) q.val := fun q => by
    rw [← hv]; exact look_in (mb := some b) (L := L) hm k false q
  have hcl := fun W => clones_any W k (by omega)
  have qM : ∀ (w : World) (r : Option Nat), (binOp .eql 94 (.map r) (.map none)).run Try.prog w = .ok (.bool r.isNone) w := fun w r => run_eql_map_nil w 94 9 32 r mapT
  have HCL := Lib.hid hcl
  rw [← hu] at d4 hb
  obtain ⟨b0, b1, b2, b3⟩ := hb
  have c4 : ∀ q : InW w, q.val.cell? ⟨p, 4, none⟩ = some (.int .i64 u) := fun q => q.cell d4
  have c5 : ∀ q : InW w, q.val.cell? ⟨p, 5, none⟩ = some (.map (some b)) := fun q => q.cell d5
  have e0 : (0 : Int) ≤ (n : Int) := by omega
  have e1 : (0 : Int) ≤ (n0 : Int) := by omega
  have e2 : (n : Int) ≤ 4000000 := by omega
  have e3 : (n0 : Int) ≤ 4000000 := by omega
  have HU := Lib.hid hu
  have HN := Lib.hid hn0
  clear h hm hv hcl hu hn0 d4
  go_enter Try.func62, Try.ntmps62
  go_wp2_with fail
  clear d5
  refine wp_region_quiet_tail (C := fun w' => ∃ q : InW w, w' = q.val) 17 (by kernel_rfl) (by kernel_rfl) (by kernel_rfl) ⟨⟨w.drew, (Below.refl _ _).drew⟩, rfl⟩ ?_
  simp only [List.take_succ_cons, List.take_zero, List.drop_succ_cons, List.drop_zero]
  repeat (go_big_quiet_step (fail))
  refine wpQuiet_nil ?_
  rintro _ ⟨q0, rfl⟩
  obtain ⟨wq, hbq⟩ := q0
  try dsimp only
  have HB := Lib.hid hbq
  have hwp := block_kept HW.out hbq
  have f4 := (blk_cells hwp).2.2.2.2.2.1
  have c4q := (blk_cells hwp).1.2.2.2.2.1
  have HM2 : Hid (MapR wq b L) := MapO.below (mb := some b) HM.out hbq
  have HWP := Lib.hid hwp
  clear c4 c5 hlk hwp hbq
  go_upto_region 3 with fail
  generalize hW1 : wq.setCell ⟨p, 4, none⟩ (.int .i64 (u + ((n : Int) - (n0 : Int)))) = W1
  have HW1 : Hid (W1.heap[p]? = some (blk { s with used := u + ((n : Int) - (n0 : Int)) } (some b))) := by
    show _ = _
    rw [← hW1]; exact blk_set HWP.out 4 _ (by simp)
  have hne : p ≠ b := MapO.ne (mb := some b) HM2.out HWP.out
  have HM3 : Hid (MapR W1 b L) := by
    have := MapO.kept (mb := some b) (w' := W1) HM2.out (fun b' e => by cases e; rw [← hW1]; exact Below.heap_setCell _ _ _ _ (Ne.symm hne))
    exact this
  have HO : Hid (Off (fun i => i = p ∨ some b = some i) w W1) := by
    have h1 : Off (fun i => i = p ∨ some b = some i) w wq := Off.of_below _ HB.out
    exact h1.trans (T' := fun i => i = p) (by rw [← hW1]; exact Off.of_grown (grownBy_set _ _ _) (fun i e => (Option.some.inj e).symm)) (fun i e => .inl (.inl e))
  clear hW1 c4q f4
  have c5 : ∀ q : InW W1, q.val.cell? ⟨p, 5, none⟩ = some (.map (some b)) := fun q => q.cell (blk_cells HW1.out).1.2.2.2.2.2
  have hcl : ∀ q : InW W1, Calls Try.prog 109 #[.string k] q.val fun e w'' => e = .returned (.string k) ∧ ∃ q' : InW W1, w'' = q'.val := fun q => calls_in (HCL.out q.val)
  refine wp_region_quiet_tail (C := fun w' => ∃ q : InW W1, w' = q.val) 7 (by kernel_rfl) (by kernel_rfl) (by kernel_rfl) ⟨⟨W1.drew, (Below.refl _ _).drew⟩, rfl⟩ ?_
  simp only [List.take_succ_cons, List.take_zero, List.drop_succ_cons, List.drop_zero]
  repeat (go_big_quiet_step ((go_at_call 109; exact hcl _)))
  refine wpQuiet_nil ?_
  rintro _ ⟨q0, rfl⟩
  obtain ⟨w2, hb2⟩ := q0
  try dsimp only
  obtain ⟨w3, hr3, hm3, hg3, hs3⟩ := update_run (w := w2) (b := b) (L := L) (MapO.below (mb := some b) HM3.out hb2) k (.slice A n c) bs
  have HM4 := Lib.hid hm3
  have HG3 := Lib.hid hg3
  have HB2 := Lib.hid hb2
  clear c5 hcl hm3 hg3 hs3 hb2
  go_wp2
  go_end0
  refine ⟨rfl, b, ?_, HM4.out, .inl rfl, ?_⟩
  · rw [← HN.out, ← HU.out]
    exact block_grown (block_kept HW1.out HB2.out) HG3.out hne
  · have h1 : Off (fun i => i = p ∨ some b = some i) w w2 := HO.out.trans (T' := fun i => i = p) (Off.of_below _ HB2.out) (fun i e => .inl (.inl e))
    exact h1.trans (T' := fun i => i = b) (Off.of_grown HG3.out (fun i e => (Option.some.inj e).symm)) (fun i e => .inl (.inr (by rw [e])))
set_option maxRecDepth 100000 in
set_option maxHeartbeats 2000000 in
theorem put_none (w : World) (p : Nat) (s : S) (k : ByteArray) (A : Option Addr) (n c : Nat) (bs : List Int) (h : w.heap[p]? = some (blk s none)) (hk : k.size ≤ 12)
    (hb : 0 ≤ s.used ∧ s.used ≤ 4000000 ∧ n ≤ 4000000) :
    Calls Try.prog 62 #[.pointer (some ⟨p, 0, none⟩), .string k, .slice A n c] w fun e w' => e = .returned (.tuple #[]) ∧ PutTo w w' p s none [] k (.slice A n c) bs n := by
  have d5 := (blk_cells h).1.2.2.2.2.2
  have f5 := (blk_cells h).2.2.2.2.2.2
  obtain ⟨u, hu⟩ : ∃ u, u = s.used := ⟨_, rfl⟩
  have HWW := Lib.hid h
  have hcl := fun W => clones_any W k (by omega)
  have qM : ∀ (w : World) (r : Option Nat), (binOp .eql 94 (.map r) (.map none)).run Try.prog w = .ok (.bool r.isNone) w := fun w r => run_eql_map_nil w 94 9 32 r mapT
  have HCL := Lib.hid hcl
  rw [← hu] at hb
  obtain ⟨b0, b1, b3⟩ := hb
  have e0 : (0 : Int) ≤ (n : Int) := by omega
  have e2 : (n : Int) ≤ 4000000 := by omega
  have hplt : p < w.heap.size := (Array.getElem?_eq_some_iff.1 h).1
  obtain ⟨n0, hn0⟩ : ∃ n0 : Nat, n0 = 0 := ⟨_, rfl⟩
  have HU := Lib.hid hu
  have hmk := @run_makeMap Try.prog
  clear h hcl hu
  go_enter Try.func62, Try.ntmps62
  go_upto_region 2 with fail
  generalize hW0 : (w.setCell ⟨p, 5, none⟩ (.map (some w.heap.size))).alloc (.map #[] 0) = W0
  generalize hbb : w.heap.size = b
  have HBG : Hid (w.heap.size ≤ b) := by show _ ≤ _; omega
  have HW : Hid (W0.heap[p]? = some (blk s (some b))) := by
    show _ = _
    rw [← hW0, ← hbb]; exact block_old (blk_set HWW.out 5 _ (by simp)) _
  have HM : Hid (MapR W0 b []) := by
    refine ⟨#[], 0, ?_, Go.MapKept.stamped_empty 0, rfl⟩
    rw [← hW0, ← hbb]
    have := block_new (w.setCell ⟨p, 5, none⟩ (.map (some w.heap.size))) (.map #[] 0)
    rwa [show (w.setCell ⟨p, 5, none⟩ (.map (some w.heap.size))).heap.size = w.heap.size by simp [World.setCell]] at this
  have HO0 : Hid (Off (fun i => i = p ∨ (none : Option Nat) = some i) w W0) := by
    have h1 : Off (fun i => i = p ∨ (none : Option Nat) = some i) w (w.setCell ⟨p, 5, none⟩ (.map (some w.heap.size))) := Off.of_grown (grownBy_set _ _ _) (fun i e => .inl (Option.some.inj e).symm)
    exact h1.trans (T' := fun i => i = p) (by rw [← hW0]; exact Off.of_below _ ((Below.refl _ _).alloc (Nat.le_refl _) _)) (fun i e => .inl (.inl e))
  have HN : Hid (n0 = (bytL [] k).length) := hn0
  have hlk : ∀ q : InW W0, (Instr.lookup 94 (.map (some b)) (.string k) false).run Try.prog q.val = .ok (.slice none n0 0) q.val := fun q => by
    rw [hn0]; exact look_in (mb := some b) (L := []) HM.out k false q
  have e1 : (0 : Int) ≤ (n0 : Int) := by omega
  have e3 : (n0 : Int) ≤ 4000000 := by omega
  have b2 : n0 ≤ 4000000 := by omega
  have c4 : ∀ q : InW W0, q.val.cell? ⟨p, 4, none⟩ = some (.int .i64 u) := fun q => q.cell (by rw [HU.out]; exact (blk_cells HW.out).1.2.2.2.2.1)
  have c5 : ∀ q : InW W0, q.val.cell? ⟨p, 5, none⟩ = some (.map (some b)) := fun q => q.cell (blk_cells HW.out).1.2.2.2.2.2
  clear d5 f5 hW0 hbb hn0 hplt
  refine wp_region_quiet_tail (C := fun w' => ∃ q : InW W0, w' = q.val) 17 (by kernel_rfl) (by kernel_rfl) (by kernel_rfl) ⟨⟨W0.drew, (Below.refl _ _).drew⟩, rfl⟩ ?_
  simp only [List.take_succ_cons, List.take_zero, List.drop_succ_cons, List.drop_zero]
  repeat (go_big_quiet_step (fail))
  refine wpQuiet_nil ?_
  rintro _ ⟨q0, rfl⟩
  obtain ⟨wq, hbq⟩ := q0
  try dsimp only
  have HB := Lib.hid hbq
  have hwp := block_kept HW.out hbq
  have f4 := (blk_cells hwp).2.2.2.2.2.1
  have c4q := (blk_cells hwp).1.2.2.2.2.1
  have HM2 : Hid (MapR wq b []) := MapO.below (mb := some b) HM.out hbq
  have HWP := Lib.hid hwp
  clear c4 c5 hlk hwp hbq
  go_upto_region 3 with fail
  generalize hW1 : wq.setCell ⟨p, 4, none⟩ (.int .i64 (u + ((n : Int) - (n0 : Int)))) = W1
  have HW1 : Hid (W1.heap[p]? = some (blk { s with used := u + ((n : Int) - (n0 : Int)) } (some b))) := by
    show _ = _
    rw [← hW1]; exact blk_set HWP.out 4 _ (by simp)
  have hne : p ≠ b := MapO.ne (mb := some b) HM2.out HWP.out
  have HM3 : Hid (MapR W1 b []) := by
    have := MapO.kept (mb := some b) (w' := W1) HM2.out (fun b' e => by cases e; rw [← hW1]; exact Below.heap_setCell _ _ _ _ (Ne.symm hne))
    exact this
  have HO : Hid (Off (fun i => i = p ∨ (none : Option Nat) = some i) w W1) := by
    have h1 : Off (fun i => i = p ∨ (none : Option Nat) = some i) w wq := HO0.out.trans (T' := fun i => i = p) (Off.of_below _ HB.out) (fun i e => .inl (.inl e))
    exact h1.trans (T' := fun i => i = p) (by rw [← hW1]; exact Off.of_grown (grownBy_set _ _ _) (fun i e => (Option.some.inj e).symm)) (fun i e => .inl (.inl e))
  clear hW1 c4q f4
  have c5 : ∀ q : InW W1, q.val.cell? ⟨p, 5, none⟩ = some (.map (some b)) := fun q => q.cell (blk_cells HW1.out).1.2.2.2.2.2
  have hcl : ∀ q : InW W1, Calls Try.prog 109 #[.string k] q.val fun e w'' => e = .returned (.string k) ∧ ∃ q' : InW W1, w'' = q'.val := fun q => calls_in (HCL.out q.val)
  refine wp_region_quiet_tail (C := fun w' => ∃ q : InW W1, w' = q.val) 7 (by kernel_rfl) (by kernel_rfl) (by kernel_rfl) ⟨⟨W1.drew, (Below.refl _ _).drew⟩, rfl⟩ ?_
  simp only [List.take_succ_cons, List.take_zero, List.drop_succ_cons, List.drop_zero]
  repeat (go_big_quiet_step ((go_at_call 109; exact hcl _)))
  refine wpQuiet_nil ?_
  rintro _ ⟨q0, rfl⟩
  obtain ⟨w2, hb2⟩ := q0
  try dsimp only
  obtain ⟨w3, hr3, hm3, hg3, hs3⟩ := update_run (w := w2) (b := b) (L := []) (MapO.below (mb := some b) HM3.out hb2) k (.slice A n c) bs
  have HM4 := Lib.hid hm3
  have HG3 := Lib.hid hg3
  have HB2 := Lib.hid hb2
  clear c5 hcl hm3 hg3 hs3 hb2
  go_wp2
  go_end0
  refine ⟨rfl, b, ?_, HM4.out, .inr ⟨rfl, HBG.out⟩, ?_⟩
  · rw [← HN.out, ← HU.out]
    exact block_grown (block_kept HW1.out HB2.out) HG3.out hne
  · have h1 : Off (fun i => i = p ∨ (none : Option Nat) = some i) w w2 := HO.out.trans (T' := fun i => i = p) (Off.of_below _ HB2.out) (fun i e => .inl (.inl e))
    exact h1.trans (T' := fun i => i = b) (Off.of_grown HG3.out (fun i e => (Option.some.inj e).symm)) (fun i e => .inr (by rw [e]; exact HBG.out))
end Go.Proofs.Ytklngdmpledgeaa.Sr
