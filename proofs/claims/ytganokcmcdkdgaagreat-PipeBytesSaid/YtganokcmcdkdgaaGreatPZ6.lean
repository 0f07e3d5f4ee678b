/-
  Which two may be a pipe's ends. Conditions: none.
-/
import Derived.Test.YtganokcmcdkdgaaGreatUIn
import Derived.Test.YtganokcmcdkdgaaGreatUOut
import Derived.Laws.EntriesVeiled
import Derived.Test.YtganokcmcdkdgaaGreatSBytes
import Derived.Laws.IdiomStrings
import Derived.Lib.BufferRead
import Derived.Lib.ConvBytes
namespace Go.Proofs.YtganokcmcdkdgaaGreat.Pi
open Go.RowKit Tb Wi

theorem blk1 {w : World} {b : Nat} {v : Value} {t : TypeId} (h : w.heap[b]? = some (.cells #[v] t (0, 0))) : w.cell? ⟨b, 0, none⟩ = some v ∧ w.frozen? ⟨b, 0, none⟩ = false := ⟨by simp [World.cell?, h], by simp [World.frozen?, h]⟩
def isB (n : Int) : Bool := decide (0 ≤ n) && decide (n < 3)
def endE (s p : Int) : Int := if 0 ≤ s ∧ s < 3 ∧ 0 ≤ p ∧ p < 3 ∧ s ≠ p then 0 else 5
set_option maxRecDepth 100000 in
theorem is_any (w : World) (c : Nat) (n : Int) (h : w.heap[c]? = some (.cells #[.int .i64 3] 3 (0, 0))) : Calls Tryz.prog 73 #[.int .i64 n, .pointer (some ⟨c, 0, none⟩)] w fun e w' => e = .returned (.bool (isB n)) ∧ w = w' := by
  have h0 : w.cell? ⟨c, 0, none⟩ = some (.int .i64 3) := by simp [World.cell?, h]
  by_cases h1 : 0 ≤ n
  · have e : isB n = decide (n < 3) := by unfold isB; rw [decide_eq_true h1]; rfl
    rw [e]
    clear h e
    go_enter Tryz.func73, Tryz.ntmps73
    go_wp2
    go_ret
    exact ⟨rfl, rfl⟩
  · have e : isB n = false := by unfold isB; rw [decide_eq_false h1]; rfl
    rw [e]
    clear h e
    go_enter Tryz.func73, Tryz.ntmps73
    go_wp2
    go_ret
    exact ⟨rfl, rfl⟩
set_option maxRecDepth 100000 in
set_option maxHeartbeats 2000000 in
theorem may_any (w : World) (c d : Nat) (s p : Int) (h : w.heap[c]? = some (.cells #[.int .i64 3] 3 (0, 0))) (h2 : w.heap[d]? = some (.cells #[.func (.func 73) #[] #[.pointer (some ⟨c, 0, none⟩)]] 83 (0, 0))) :
    Calls Tryz.prog 74 #[.int .i64 s, .int .i64 p, .pointer (some ⟨d, 0, none⟩)] w fun e w' => e = .returned (.bool (decide (endE s p = 0))) ∧ w = w' := by
  have h0 : w.cell? ⟨d, 0, none⟩ = some (.func (.func 73) #[] #[.pointer (some ⟨c, 0, none⟩)]) := by simp [World.cell?, h2]
  have HI := Lib.hid (fun n => is_any w c n h)
  obtain ⟨q1, hq1⟩ : ∃ q, q = isB s := ⟨_, rfl⟩
  obtain ⟨q2, hq2⟩ : ∃ q, q = isB p := ⟨_, rfl⟩
  have HI1 := HI.out s
  have HI2 := HI.out p
  rw [← hq1] at HI1
  rw [← hq2] at HI2
  have HA := Lib.hid HI1
  have HB := Lib.hid HI2
  have HE : Hid (decide (endE s p = 0) = (q1 && q2 && decide (s ≠ p))) := by
    show _ = _
    rw [hq1, hq2]
    unfold endE isB
    by_cases g : 0 ≤ s ∧ s < 3 ∧ 0 ≤ p ∧ p < 3 ∧ s ≠ p
    · rw [if_pos g]; obtain ⟨g1, g2, g3, g4, g5⟩ := g; simp [g1, g2, g3, g4, g5]
    · rw [if_neg g]
      simp only [show ¬ ((5 : Int) = 0) by decide, decide_false]
      symm
      rw [← Bool.not_eq_true]
      simp only [Bool.and_eq_true, decide_eq_true_eq]
      intro g2
      exact g ⟨g2.1.1.1, g2.1.1.2, g2.1.2.1, g2.1.2.2, g2.2⟩
  rw [HE.out]
  clear h h2 HI HI1 HI2 hq1 hq2 HE
  cases q1
  · go_enter Tryz.func74, Tryz.ntmps74
    go_wp2_with (go_at_call 73; (with_reducible refine HA.out.mono ?_); rintro e w1 ⟨rfl, rfl⟩)
    go_ret
    exact ⟨rfl, rfl⟩
  · cases q2
    · go_enter Tryz.func74, Tryz.ntmps74
      go_wp2_with (first
        | (go_at_call 73; (with_reducible refine HA.out.mono ?_); rintro e w1 ⟨rfl, rfl⟩)
        | (go_at_call 73; (with_reducible refine HB.out.mono ?_); rintro e w1 ⟨rfl, rfl⟩))
      go_ret
      exact ⟨rfl, rfl⟩
    · by_cases hsp : s = p
      · have e : decide (s ≠ p) = false := decide_eq_false (fun h => h hsp)
        rw [e]
        clear e
        go_enter Tryz.func74, Tryz.ntmps74
        go_wp2_with (first
          | (go_at_call 73; (with_reducible refine HA.out.mono ?_); rintro e w1 ⟨rfl, rfl⟩)
          | (go_at_call 73; (with_reducible refine HB.out.mono ?_); rintro e w1 ⟨rfl, rfl⟩))
        go_ret
        exact ⟨by simp, rfl⟩
      · go_enter Tryz.func74, Tryz.ntmps74
        go_wp2_with (first
          | (go_at_call 73; (with_reducible refine HA.out.mono ?_); rintro e w1 ⟨rfl, rfl⟩)
          | (go_at_call 73; (with_reducible refine HB.out.mono ?_); rintro e w1 ⟨rfl, rfl⟩))
        go_ret
        exact ⟨by simp [hsp], rfl⟩
set_option maxRecDepth 100000 in
theorem ends_any (w : World) : Calls Tryz.prog 42 #[.int .i64 3] w fun e w' => ∃ c d, e = .returned (.func (.func 74) #[] #[.pointer (some ⟨d, 0, none⟩)]) ∧ w'.heap[c]? = some (.cells #[.int .i64 3] 3 (0, 0)) ∧ w'.heap[d]? = some (.cells #[.func (.func 73) #[] #[.pointer (some ⟨c, 0, none⟩)]] 83 (0, 0)) ∧ Below w.heap.size w w' := by
  go_enter Tryz.func42, Tryz.ntmps42
  go_wp2

  go_ret
  refine ⟨w.heap.size, w.heap.size + 1, rfl, ?_, ?_, ?_⟩
  · exact block_old (block_new _ _) _
  · have h := block_new (w.alloc (.cells #[.int .i64 3] 3)) (.cells #[.func (.func 73) #[] #[.pointer (some ⟨w.heap.size, 0, none⟩)]] 83)
    rw [show (w.alloc (.cells #[.int .i64 3] 3)).heap.size = w.heap.size + 1 by simp] at h
    exact h
  · exact ((Below.refl _ _).alloc (Nat.le_refl _) _).alloc (by simp) _
set_option maxRecDepth 100000 in
theorem check_any (w : World) (s p : Int) : Calls Tryz.prog 16 #[.int .i64 s, .int .i64 p] w fun e w' => e = .returned (.int .i64 (endE s p)) ∧ Below w.heap.size w w' := by
  have HE := Lib.hid (ends_any w)
  obtain ⟨q, hq⟩ : ∃ q, q = decide (endE s p = 0) := ⟨_, rfl⟩
  have HQ : Hid (endE s p = if q = true then 0 else 5) := by
    show _ = _
    rw [hq]
    by_cases h : endE s p = 0
    · rw [h]; rfl
    · have h5 : endE s p = 5 := by unfold endE at h ⊢; split <;> simp_all
      rw [h5]; rfl
  have HM := Lib.hid (fun w1 c d h1 h2 => may_any w1 c d s p h1 h2)
  rw [HQ.out]
  rw [← hq] at HM
  clear HQ hq
  cases q
  all_goals
    go_enter Tryz.func16, Tryz.ntmps16
    go_wp2_with (first
      | (go_at_call 74; (with_reducible refine HMX.out.mono ?_); rintro e w2 ⟨rfl, rfl⟩)
      | (go_at_call 42; (with_reducible refine HE.out.mono ?_); rintro e w1 ⟨c, d, rfl, h1, h2, hb⟩; have HMX := Lib.hid (HM.out _ c d h1 h2); have HB := Lib.hid hb; clear h1 h2 hb))
    go_ret
    exact ⟨rfl, HB.out⟩
end Go.Proofs.YtganokcmcdkdgaaGreat.Pi

namespace Go.Proofs.YtganokcmcdkdgaaGreat.Pi
open Go.RowKit Fr Wi Tb

def u8s (l : List Int) : List UInt8 := l.map fun x => UInt8.ofNat x.toNat
def strOf (l : List Int) : ByteArray := ⟨(u8s l).toArray⟩
theorem sb_strOf {l : List Int} (h : bok l) : sb (strOf l) = l := by
  unfold sb strOf u8s
  simp only [List.map_map]
  conv => rhs; rw [← List.map_id l]
  refine List.map_congr_left fun x hx => ?_
  have := h x hx
  show ((UInt8.ofNat x.toNat).toNat : Int) = x
  rw [UInt8.toNat_ofNat']
  omega
theorem strOf_sb (s : ByteArray) : strOf (sb s) = s := by
  unfold sb strOf u8s
  rw [List.map_map]
  have : (fun x : Int => UInt8.ofNat x.toNat) ∘ (fun b : UInt8 => (b.toNat : Int)) = id := by
    funext b; simp
  rw [this, List.map_id]
theorem strOf_len (l : List Int) : (strOf l).size = l.length := by simp [strOf, u8s, ByteArray.size]
theorem sb_bok (s : ByteArray) : bok (sb s) := fun x hx => by
  unfold sb at hx
  obtain ⟨b, _, rfl⟩ := List.mem_map.1 hx
  have := b.toNat_lt
  omega
theorem conv_any {w : World} {u : Value} {l : List Int} (h : BAt w u l) (hb : bok l) : (convert 22 9 u).run Tryz.prog w = .ok (.string (strOf l)) w := by
  obtain ⟨A, cap, rfl, _, hc⟩ := h
  have hl : (u8s l).length = l.length := by simp [u8s]
  cases A with
  | none =>
    cases l with
    | nil => exact Lib.run_convert_nil_bytes w 22 9 5 cap Tryz.underlying22 Tryz.underlying5 Tryz.underlying9
    | cons x r => obtain ⟨g, o, h1, _⟩ := hc (by simp); cases h1
  | some a =>
    have := run_convert_bytes_back (P := Tryz.prog) w 22 9 5 a cap (u8s l) Tryz.underlying22 Tryz.underlying5 Tryz.underlying9 (fun j hj => by
      rw [hl] at hj
      obtain ⟨g, o, h1, _, h3⟩ := hc (by omega)
      cases h1
      rw [show (Addr.mk g o none).add j = ⟨g, o + j, none⟩ by unfold Addr.add; split <;> simp_all, h3 j hj]
      have hx : l.getD j 0 = l[j] := by simp [List.getD, List.getElem?_eq_getElem hj]
      have := hb l[j] (List.getElem_mem hj)
      rw [hx]
      simp [u8s]
      omega)
    rw [hl] at this
    exact this
/-- A block that nobody changes. -/
def Fix (N0 : Nat) (w : World) (g : Nat) : Prop := g < N0 ∨ ∃ t cs fr, w.heap[g]? = some (.cells cs t fr) ∧ (t = 5 ∨ t = 22)
/-- Bytes there. -/
def BF (N0 : Nat) (w : World) (v : Value) (l : List Int) : Prop := BAt w v l ∧ bok l ∧ ∀ a n c, v = .slice (some a) n c → 0 < n → a.block < w.heap.size ∧ Fix N0 w a.block
/-- Slices of bytes there. -/
def BBF (N0 : Nat) (w : World) (v : Value) (ls : List (List Int)) : Prop := ∃ A cap, v = .slice A ls.length cap ∧ ls.length ≤ cap ∧ (0 < ls.length → ∃ g o, A = some ⟨g, o, none⟩ ∧ g < w.heap.size ∧ Fix N0 w g ∧ ∀ (i : Nat) (l : List Int), ls[i]? = some l → ∃ u, w.cell? ⟨g, o + i, none⟩ = some u ∧ BF N0 w u l)
section
variable {N0 : Nat} {w w' : World} {S : Nat → Prop} {v : Value} {l : List Int} {ls : List (List Int)}
theorem Fix.kept {g : Nat} (h : Fix N0 w g) (hk : Kept S w w') (hg : g < w.heap.size) (hs : ¬ S g) : Fix N0 w' g := by
  rcases h with h | ⟨t, cs, fr, h1, h2⟩
  · exact .inl h
  · exact .inr ⟨t, cs, fr, (hk.block g hg hs).trans h1, h2⟩
theorem bat_keep (h : BAt w v l) (hk : Kept S w w') (hs : ∀ a n c, v = .slice (some a) n c → 0 < n → ¬ S a.block) : BAt w' v l := by
  obtain ⟨A, cap, h1, h2, h3⟩ := h
  refine ⟨A, cap, h1, h2, fun hp => ?_⟩
  obtain ⟨g, o, h4, h5, h6⟩ := h3 hp
  refine ⟨g, o, h4, Nat.lt_of_lt_of_le h5 hk.size, fun i hi => ?_⟩
  exact (World.cell?_of_block (w := w) (a := ⟨g, o + i, none⟩) (hk.block g h5 (hs _ _ _ (by rw [h1, h4]) hp))).trans (h6 i hi)
theorem BF.kept (h : BF N0 w v l) (hk : Kept S w w') (hs : ∀ g, Fix N0 w g → ¬ S g) : BF N0 w' v l :=
  ⟨bat_keep h.1 hk (fun a n c e hp => hs _ (h.2.2 a n c e hp).2), h.2.1, fun a n c e hp => ⟨Nat.lt_of_lt_of_le (h.2.2 a n c e hp).1 hk.size, (h.2.2 a n c e hp).2.kept hk (h.2.2 a n c e hp).1 (hs _ (h.2.2 a n c e hp).2)⟩⟩
theorem BF.below (h : BF N0 w v l) (hb : Below w.heap.size w w') : BF N0 w' v l := h.kept (Kept.of_below (S := fun _ => False) hb) (fun _ _ h => h)
theorem BBF.kept (h : BBF N0 w v ls) (hk : Kept S w w') (hs : ∀ g, Fix N0 w g → ¬ S g) : BBF N0 w' v ls := by
  obtain ⟨A, cap, h1, h2, h3⟩ := h
  refine ⟨A, cap, h1, h2, fun hp => ?_⟩
  obtain ⟨g, o, h4, h5, h6, h7⟩ := h3 hp
  refine ⟨g, o, h4, Nat.lt_of_lt_of_le h5 hk.size, h6.kept hk h5 (hs g h6), fun i l hi => ?_⟩
  obtain ⟨u, h8, h9⟩ := h7 i l hi
  exact ⟨u, (World.cell?_of_block (w := w) (a := ⟨g, o + i, none⟩) (hk.block g h5 (hs g h6))).trans h8, h9.kept hk hs⟩
theorem BBF.below (h : BBF N0 w v ls) (hb : Below w.heap.size w w') : BBF N0 w' v ls := h.kept (Kept.of_below (S := fun _ => False) hb) (fun _ _ h => h)
theorem BBF.nil (N0 : Nat) (w : World) : BBF N0 w (.slice none 0 0) [] := ⟨none, 0, rfl, Nat.le_refl _, fun h => absurd h (by decide)⟩
theorem BF.nil (N0 : Nat) (w : World) : BF N0 w (.slice none 0 0) [] := ⟨BAt.nil w, fun _ h => absurd h List.not_mem_nil, fun _ _ _ h _ => by cases h⟩
theorem BF.of_own {base : Nat} (h : w.ownsRow base 5 1 v l.length (bv l)) (hb : bok l) : BF N0 w v l := by
  refine ⟨BAt.of_own h, hb, fun a n c e _ => ?_⟩
  rcases h.2 with ⟨h1, _⟩ | ⟨g, cap, cur, h1, _, h3, _⟩
  · rw [h1] at e; cases e
  · rw [h1] at e
    cases e
    exact ⟨(Array.getElem?_eq_some_iff.1 h3).1, .inr ⟨_, _, _, h3, .inl rfl⟩⟩
/-- Bytes of a text, in a block of their own. -/
theorem str_new (s : ByteArray) : ∃ (cv : World → Nat) (cw : World → World), ∀ W N0, (convert 9 22 (.string s)).run Tryz.prog W = .ok (.slice (some ⟨W.heap.size, 0, none⟩) s.size (cv W)) (cw W) ∧ BF N0 (cw W) (.slice (some ⟨W.heap.size, 0, none⟩) s.size (cv W)) (sb s) ∧ Below W.heap.size W (cw W) := by
  refine ⟨fun W => grownCap W s.size 0 5, fun W => Lib.bytesWorld W 5 s, fun W N0 => ⟨Lib.run_convert_string_bytes (P := Tryz.prog) W 9 22 5 s Tryz.underlying9 Tryz.underlying22 Tryz.underlying5, ⟨⟨_, _, by rw [sb_len], ?_, fun hp => ⟨W.heap.size, 0, rfl, ?_, fun j hj => ?_⟩⟩, sb_bok s, fun a n c e _ => ?_⟩, ?_⟩⟩
  · rw [sb_len]; exact grownCap_ge W _ _ _
  · rw [Lib.bytesWorld_size]; omega
  · rw [sb_len] at hj
    rw [Nat.zero_add, Lib.bytesWorld_cell _ _ _ _ hj]
    have hj2 : j < s.data.toList.length := by
      have : s.data.toList.length = s.size := Array.length_toList
      omega
    unfold sb
    simp only [List.getD, List.getElem?_map, List.getElem?_eq_getElem hj2, Option.map_some, Option.getD_some]
  · cases e
    exact ⟨by show W.heap.size < _; rw [Lib.bytesWorld_size]; omega, .inr ⟨_, _, _, Lib.bytesWorld_at_new W 5 s, .inl rfl⟩⟩
  · exact ⟨rfl, rfl, rfl, by rw [Lib.bytesWorld_size]; omega, fun k hk => Lib.bytesWorld_at_old W _ _ k hk⟩
end
end Go.Proofs.YtganokcmcdkdgaaGreat.Pi
