/-
  The contract of Append. Conditions: a store; bytes that lie outside it, at most a million.
-/
import Derived.Test.YtklngdmpledgeaaSSt
namespace Go.Proofs.Ytklngdmpledgeaa.Sr
open Go.RowKit Fr

theorem put_any (w : World) (p : Nat) (mb : Option Nat) (s : S) (L : List Fi) (k : ByteArray) (A A0 : Option Addr) (n c n0 cc : Nat) (bs : List Int) (h : w.heap[p]? = some (blk s mb)) (hm : MapO w mb L) (hk : k.size ≤ 12)
    (hv : valL L k = .slice A0 n0 cc) (hn0 : n0 = (bytL L k).length) (hb : 0 ≤ s.used ∧ s.used ≤ 4000000 ∧ n0 ≤ 4000000 ∧ n ≤ 4000000) :
    Calls Try.prog 62 #[.pointer (some ⟨p, 0, none⟩), .string k, .slice A n c] w fun e w' => e = .returned (.tuple #[]) ∧ PutTo w w' p s mb L k (.slice A n c) bs n := by
  cases mb with
  | none =>
    cases (show L = [] from hm)
    exact put_none w p s k A n c bs h hk ⟨hb.1, hb.2.1, hb.2.2.2⟩
  | some b => exact put_some w p b s L k A A0 n c n0 cc bs h hm hk hv hn0 hb

theorem app_keeps {w w4 : World} {p : Nat} {s : S} {mb : Option Nat} {L : List Fi} {k : ByteArray} (h : StR w p s mb L) (hg : w.grownBy w4 (valL L k).ownBlock) : w4.heap[p]? = some (blk s mb) ∧ MapO w4 mb L := by
  have hr := val_row h.rows k
  have hb : ∀ i, i < w.heap.size → (valL L k).ownBlock ≠ some i → w4.heap[i]? = w.heap[i]? := fun i hi hn => hg.block i hi (fun e => hn e.symm)
  refine ⟨(hb p (own_lt h (.inl rfl)) fun e => ?_).trans h.blk, h.map.kept fun b e => hb b (own_lt h (.inr (.inl e))) fun e2 => ?_⟩
  · obtain ⟨cur, hc⟩ := row_heap hr e
    rw [h.blk] at hc; cases hc
  · obtain ⟨cur, hc⟩ := row_heap hr e2
    have hm := h.map
    rw [e] at hm; obtain ⟨es, c, h1, _⟩ := hm; rw [hc] at h1; cases h1
theorem app_step {w w4 w5 : World} {p : Nat} {s : S} {mb : Option Nat} {L : List Fi} {k : ByteArray} {v : Value} {nb : List Int} (h : StR w p s mb L) (hg : w.grownBy w4 (valL L k).ownBlock) (hv : rowOf w4 v nb)
    (hloc : ∀ i, v.ownBlock = some i → (valL L k).ownBlock = some i ∨ w.heap.size ≤ i) (hroom : (usedL L : Int) - (bytL L k).length + nb.length ≤ s.room) (hput : PutTo w4 w5 p s mb L k v nb nb.length) :
    ∃ mb' v', Mv w w5 p mb L { s with used := s.used + ((nb.length : Int) - ((bytL L k).length : Int)) } mb' (putL L k (v', nb)) := by
  obtain ⟨h1, h2⟩ := app_keeps h hg
  refine put_step (w2 := w4) h (Off.of_grown hg fun i e => ?_) h1 h2 (fun x hx hn => ?_) hv hloc rfl rfl h.left hroom hput
  · obtain ⟨x, hx, _, h3⟩ := val_own e; exact .inr (.inr ⟨x, hx, h3⟩)
  · exact row_kept (h.rows x hx) fun i hi => hg.block i ((h.rows x hx).lt i hi).2 (fun e => apart_val h.apart hx hn e.symm hi)

theorem useN_le (s : S) (n : Nat) (hs : s.a = true → 0 ≤ s.n ∧ s.n ≤ 9223372036854775807) : 0 ≤ useN s n ∧ useN s n ≤ n := by
  unfold useN
  split
  · rename_i h; have := hs h.1; omega
  · omega
theorem useS_keeps (s : S) (n : Int) (hn : 0 ≤ n) (hs : s.a = true → 0 ≤ s.n ∧ s.n ≤ 9223372036854775807) : (useS s n).used = s.used ∧ (useS s n).room = s.room ∧ ((useS s n).a = true → 0 ≤ (useS s n).n ∧ (useS s n).n ≤ 9223372036854775807) := by
  unfold useS
  split
  · rename_i h
    have := hs h
    split
    · exact ⟨rfl, rfl, fun _ => (⟨by decide, by decide⟩ : (0 : Int) ≤ 0 ∧ (0 : Int) ≤ 9223372036854775807)⟩
    · exact ⟨rfl, rfl, fun _ => by show 0 ≤ s.n - n ∧ s.n - n ≤ _; omega⟩
  · exact ⟨rfl, rfl, hs⟩

theorem Own.hp {w w' : World} {p : Nat} {s : S} {mb : Option Nat} (h : Own w w' p s mb) : w'.heap[p]? = some (blk s mb) := h.1

/-- ready, behind the slice of the one name. -/
theorem ready_one {w : World} {p : Nat} {s : S} {mb : Option Nat} (h : w.heap[p]? = some (blk s mb)) (k : ByteArray) :
    Calls Try.prog 60 #[.pointer (some ⟨p, 0, none⟩), .slice (some ⟨w.heap.size, 0, none⟩) 1 1] (w.alloc (.cells #[.string k] 9)) fun e w' => e = .returned (.int .i64 (rdy s.d [k])) ∧ Below w.heap.size w w' := by
  have h1 : NRow (w.alloc (.cells #[.string k] 9)) w.heap.size [k] := by
    refine ⟨by simp, fun j hj => ?_⟩
    have e : j = 0 := by simp at hj; omega
    subst e
    exact (block_cell (block_new w (.cells #[.string k] 9))).1
  refine (ready_any (w.alloc (.cells #[.string k] 9)) p s mb w.heap.size 1 [k] (block_old h _) h1 (by simp)).mono ?_
  rintro e w' ⟨rfl, hb⟩
  exact ⟨rfl, ((Below.refl _ _).alloc (Nat.le_refl _) _).trans (hb.mono (by simp))⟩

set_option maxRecDepth 100000 in
set_option maxHeartbeats 1000000 in
theorem append_bad (w : World) (p : Nat) (s : S) (mb : Option Nat) (L : List Fi) (k : ByteArray) (v : Value) (h : StR w p s mb L) (hr : rdy s.d [k] ≠ 0) :
    Calls Try.prog 15 #[.pointer (some ⟨p, 0, none⟩), .string k, v] w fun e w' => e = .returned (.int .i64 (rdy s.d [k])) ∧ Mv w w' p mb L s mb L := by
  have HR := Lib.hid (ready_one h.blk k)
  obtain ⟨r, hr2⟩ : ∃ r, r = rdy s.d [k] := ⟨_, rfl⟩
  rw [← hr2] at HR hr ⊢
  have hb : (r != 0) = true := by simpa using hr
  have HS := Lib.hid h
  clear h hr hr2
  go_enter Try.func15, Try.ntmps15
  go_wp2_with (go_at_call 60; refine HR.out.mono ?_; rintro e w1 ⟨rfl, hb1⟩; have HB1 := Lib.hid hb1; clear hb1)
  go_ret
  exact ⟨rfl, Mv.of_below HS.out HB1.out⟩

set_option maxRecDepth 100000 in
set_option maxHeartbeats 1000000 in
theorem append_full (w : World) (p : Nat) (s : S) (mb : Option Nat) (L : List Fi) (k : ByteArray) (A : Option Addr) (n c : Nat) (h : StR w p s mb L) (hr : rdy s.d [k] = 0) (hf : s.room < s.used + n) (hn : n ≤ 1000000) :
    Calls Try.prog 15 #[.pointer (some ⟨p, 0, none⟩), .string k, .slice A n c] w fun e w' => e = .returned (.int .i64 7) ∧ Mv w w' p mb L s mb L := by
  have HR := Lib.hid (ready_one h.blk k)
  rw [hr] at HR
  have HS := Lib.hid h
  have hroom := h.room
  have hused := h.used
  obtain ⟨x, hx⟩ : ∃ x, x = s.room := ⟨_, rfl⟩
  obtain ⟨u, hu⟩ : ∃ u, u = s.used := ⟨_, rfl⟩
  have hx0 : 0 ≤ x ∧ x ≤ 1048576 := by omega
  have hu0 : 0 ≤ u ∧ u ≤ 1048576 := by omega
  rw [← hx, ← hu] at hf
  obtain ⟨x0, x1⟩ := hx0
  obtain ⟨u0, u1⟩ := hu0
  have e0 : (0 : Int) ≤ (n : Int) := by omega
  have e1 : (n : Int) ≤ 1000000 := by omega
  have HX := Lib.hid hx
  have HU := Lib.hid hu
  clear h hr hx hu hroom hused
  go_enter Try.func15, Try.ntmps15
  go_upto_region 4 with (go_at_call 60; refine HR.out.mono ?_; rintro e w1 ⟨rfl, hb1⟩; have HB1 := Lib.hid hb1; clear hb1)
  have c3 : ∀ q : InW w1, q.val.cell? ⟨p, 3, none⟩ = some (.int .i64 x) := fun q => q.cell (by rw [HX.out]; exact (blk_cells (HS.out.below HB1.out).blk).1.2.2.2.1)
  have c4 : ∀ q : InW w1, q.val.cell? ⟨p, 4, none⟩ = some (.int .i64 u) := fun q => q.cell (by rw [HU.out]; exact (blk_cells (HS.out.below HB1.out).blk).1.2.2.2.2.1)
  refine wp_region_below (W := w1) (by kernel_rfl) (by kernel_rfl) (Below.refl _ _) ?_
  repeat (go_big_quiet_step (fail))
  refine wpQuiet_nil ?_
  rintro _ ⟨q0, rfl⟩
  obtain ⟨wq, hbq⟩ := q0
  try dsimp only
  have HBQ := Lib.hid hbq
  clear c3 c4 hbq
  go_wp2
  go_ret
  exact ⟨rfl, Mv.of_below HS.out (HB1.out.trans (HBQ.out.mono HB1.out.size))⟩
set_option maxRecDepth 100000 in
set_option maxHeartbeats 1000000 in
/-- The store dies ahead of the first byte. -/
theorem append_down (w : World) (p : Nat) (s : S) (mb : Option Nat) (L : List Fi) (k : ByteArray) (A : Option Addr) (n c : Nat) (h : StR w p s mb L) (hr : rdy s.d [k] = 0) (hf : ¬ s.room < s.used + n) (hn : n ≤ 1000000) (h0 : 0 < n) (hm : useN s n = 0) :
    Calls Try.prog 15 #[.pointer (some ⟨p, 0, none⟩), .string k, .slice A n c] w fun e w' => e = .returned (.int .i64 (dwn (useS s n))) ∧ Mv w w' p mb L (useS s n) mb L := by
  have HR := Lib.hid (ready_one h.blk k)
  rw [hr] at HR
  have HS := Lib.hid h
  have hroom := h.room
  have hused := h.used
  have huse : ∀ W, Below w.heap.size w W → Calls Try.prog 61 #[.pointer (some ⟨p, 0, none⟩), .int .i64 (n : Int)] W fun e w' => e = .returned (.int .i64 0) ∧ Own W w' p (useS s n) mb := fun W hW => by
    rw [← hm]; exact use_any W p s mb n ((h.below hW).blk) (by omega) h.left
  have HUS := Lib.hid huse
  have hkeep := Lib.hid (useS_keeps s n (by omega) h.left)
  obtain ⟨x, hx⟩ : ∃ x, x = s.room := ⟨_, rfl⟩
  obtain ⟨u, hu⟩ : ∃ u, u = s.used := ⟨_, rfl⟩
  have hx0 : 0 ≤ x ∧ x ≤ 1048576 := by omega
  have hu0 : 0 ≤ u ∧ u ≤ 1048576 := by omega
  rw [← hx, ← hu] at hf
  obtain ⟨x0, x1⟩ := hx0
  obtain ⟨u0, u1⟩ := hu0
  have e0 : (0 : Int) ≤ (n : Int) := by omega
  have e1 : (n : Int) ≤ 1000000 := by omega
  have e2 : ((n : Int) == 0) = false := by simp; omega
  have HX := Lib.hid hx
  have HU := Lib.hid hu
  obtain ⟨s1, hs1⟩ : ∃ s1, s1 = useS s n := ⟨_, rfl⟩
  rw [← hs1] at HUS hkeep ⊢
  obtain ⟨d1, hd1⟩ : ∃ d1, d1 = dwn s1 := ⟨_, rfl⟩
  rw [← hd1]
  have hst : ∀ W, W.heap[p]? = some (blk s1 mb) → Calls Try.prog 63 #[.pointer (some ⟨p, 0, none⟩)] W fun e w' => e = .returned (.int .i64 d1) ∧ W = w' := fun W hW => by
    rw [hd1]; exact state_any W p s1 mb hW
  have HST := Lib.hid hst
  clear h hr hx hu hroom hused huse hm hst hs1 hd1
  go_enter Try.func15, Try.ntmps15
  go_upto_region 4 with (go_at_call 60; refine HR.out.mono ?_; rintro e w1 ⟨rfl, hb1⟩; have HB1 := Lib.hid hb1; clear hb1)
  have c3 : ∀ q : InW w1, q.val.cell? ⟨p, 3, none⟩ = some (.int .i64 x) := fun q => q.cell (by rw [HX.out]; exact (blk_cells (HS.out.below HB1.out).blk).1.2.2.2.1)
  have c4 : ∀ q : InW w1, q.val.cell? ⟨p, 4, none⟩ = some (.int .i64 u) := fun q => q.cell (by rw [HU.out]; exact (blk_cells (HS.out.below HB1.out).blk).1.2.2.2.2.1)
  refine wp_region_below (W := w1) (by kernel_rfl) (by kernel_rfl) (Below.refl _ _) ?_
  repeat (go_big_quiet_step (fail))
  refine wpQuiet_nil ?_
  rintro _ ⟨q0, rfl⟩
  obtain ⟨wq, hbq⟩ := q0
  try dsimp only
  have HBQ : Hid (Below w.heap.size w wq) := HB1.out.trans (hbq.mono HB1.out.size)
  clear c3 c4 hbq
  go_wp2_with (first
    | (go_at_call 63; (with_reducible refine (HST.out _ HOW.out.hp).mono ?_); rintro e w3 ⟨rfl, rfl⟩)
    | (go_at_call 61; (with_reducible refine (HUS.out _ HBQ.out).mono ?_); rintro e w2 ⟨rfl, how⟩; have HOW := Lib.hid how; clear how))
  go_ret
  exact ⟨rfl, (Mv.of_below HS.out HBQ.out).trans (Mv.of_own (HS.out.below HBQ.out) HOW.out hkeep.out.1 hkeep.out.2.1 hkeep.out.2.2)⟩
end Go.Proofs.Ytklngdmpledgeaa.Sr
