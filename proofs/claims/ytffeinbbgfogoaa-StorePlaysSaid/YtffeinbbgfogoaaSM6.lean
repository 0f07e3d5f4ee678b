/-
  Drop of two names. Conditions: none.
-/
import Derived.Test.YtffeinbbgfogoaaSRpl1
namespace Go.Proofs.Ytffeinbbgfogoaa.Sr
open Go.RowKit Fr

def dr2S (s : S) (L : List Fi) (k t : ByteArray) : S := if drpE s L k = 0 then drpS (drpS s L k) (drpL s L k) t else drpS s L k
def dr2L (s : S) (L : List Fi) (k t : ByteArray) : List Fi := if drpE s L k = 0 then drpL (drpS s L k) (drpL s L k) t else drpL s L k
def dr2E (s : S) (L : List Fi) (k t : ByteArray) : Int := if drpE s L k = 0 then drpE (drpS s L k) (drpL s L k) t else drpE s L k
theorem cells2 {w : World} {b : Nat} {u v : Value} {t : TypeId} (h : w.heap[b]? = some (.cells #[u, v] t (0, 0))) : w.cell? ⟨b, 0, none⟩ = some u ∧ w.cell? ⟨b, 1, none⟩ = some v := by
  constructor <;> simp [World.cell?, h]
set_option maxRecDepth 100000 in
set_option maxHeartbeats 1000000 in
theorem Drop_two {w : World} {p : Nat} {s : S} {mb : Option Nat} {L : List Fi} (k t : ByteArray) (h : StR w p s mb L) :
    Calls Try.prog 19 #[.pointer (some ⟨p, 0, none⟩), .slice (some ⟨w.heap.size, 0, none⟩) 2 2] (w.alloc (.cells #[.string k, .string t] 9)) fun e w' => e = .returned (.int .i64 (dr2E s L k t)) ∧ Mv w w' p mb L (dr2S s L k t) mb (dr2L s L k t) := by
  have hbk := block_new w (.cells #[.string k, .string t] 9)
  have hl : Below w.heap.size w (w.alloc (.cells #[.string k, .string t] 9)) := (Below.refl _ _).alloc (Nat.le_refl _) _
  have hown : ∀ j, own p mb L j → j ≠ w.heap.size := fun j hj => Nat.ne_of_lt (own_lt h hj)
  have hlt : w.heap.size < (w.alloc (.cells #[.string k, .string t] 9)).heap.size := by simp
  generalize w.alloc (.cells #[.string k, .string t] 9) = W at hbk hl hlt ⊢
  have HD := Lib.hid (drop_any k (h.below hl))
  have HM := Lib.hid (Mv.of_below h hl)
  generalize w.heap.size = g at hbk hlt hown ⊢
  obtain ⟨c0, _⟩ := cells2 hbk
  obtain ⟨s1, hs1⟩ : ∃ s1, s1 = drpS s L k := ⟨_, rfl⟩
  obtain ⟨L1, hL1⟩ : ∃ L1, L1 = drpL s L k := ⟨_, rfl⟩
  obtain ⟨r, hr⟩ : ∃ r, r = drpE s L k := ⟨_, rfl⟩
  unfold dr2E dr2S dr2L
  rw [← hr, ← hs1, ← hL1] at HD ⊢
  have HK : Hid (∀ W1, Mv W W1 p mb L s1 mb L1 → W1.cell? ⟨g, 1, none⟩ = some (.string t)) := fun W1 hm => (cells2 ((hm.off.2 g hlt (fun ho => hown g ho rfl)).trans hbk)).2
  have HD2 : Hid (∀ W1, Mv W W1 p mb L s1 mb L1 → Calls Try.prog 60 #[.pointer (some ⟨p, 0, none⟩), .string t] W1 fun e w' => e = .returned (.int .i64 (drpE s1 L1 t)) ∧ Mv W w' p mb L (drpS s1 L1 t) mb (drpL s1 L1 t)) := fun W1 hm => by
    refine (drop_any t hm.st).mono ?_
    rintro e w' ⟨rfl, hm2⟩
    exact ⟨rfl, hm.trans hm2⟩
  clear hl h hr hs1 hL1 hown hbk
  by_cases h0 : r = 0
  · subst h0
    obtain ⟨r2, hr2⟩ : ∃ r2, r2 = drpE s1 L1 t := ⟨_, rfl⟩
    rw [if_pos rfl, if_pos rfl, if_pos rfl]
    rw [← hr2] at HD2 ⊢
    clear hr2
    by_cases h2 : r2 = 0
    · subst h2
      go_enter Try.func19, Try.ntmps19
      go_wp2
      go_loopg [10] 2 (fun (gh : Nat) s10 wx => (gh = 2 ∧ s10 = .int .i64 0 ∧ W = wx) ∨ (gh = 1 ∧ s10 = .int .i64 1 ∧ Hid (Mv W wx p mb L s1 mb L1)) ∨ (gh = 0 ∧ s10 = .int .i64 2 ∧ Hid (Mv W wx p mb L (drpS s1 L1 t) mb (drpL s1 L1 t))))
      case atStart => exact .inl ⟨rfl, rfl, rfl⟩
      case round =>
        rcases hrel with ⟨rfl, rfl, rfl⟩ | ⟨rfl, rfl, hm⟩ | ⟨rfl, rfl, hm⟩
        · go_wp2_with (go_at_call 60; (with_reducible refine HD.out.mono ?_); rintro e w1 ⟨rfl, hm1⟩; have HM1 := Lib.hid hm1; clear hm1)
          go_roundg 1
          case measure => omega
          case rel => exact .inr (.inl ⟨rfl, by go_num, HM1.out⟩)
        · have c1 := HK.out _ hm.out
          go_wp2_with (go_at_call 60; (with_reducible refine (HD2.out _ hm.out).mono ?_); rintro e w1 ⟨rfl, hm1⟩; have HM1 := Lib.hid hm1; clear hm1)
          go_roundg 0
          case measure => omega
          case rel => exact .inr (.inr ⟨rfl, by go_num, HM1.out⟩)
        · go_wp2
          go_ret
          exact ⟨rfl, HM.out.trans hm.out⟩
    · have hb : (r2 != 0) = true := by simpa using h2
      go_enter Try.func19, Try.ntmps19
      go_wp2
      go_loopg [10] 1 (fun (gh : Nat) s10 wx => (gh = 1 ∧ s10 = .int .i64 0 ∧ W = wx) ∨ (gh = 0 ∧ s10 = .int .i64 1 ∧ Hid (Mv W wx p mb L s1 mb L1)))
      case atStart => exact .inl ⟨rfl, rfl, rfl⟩
      case round =>
        rcases hrel with ⟨rfl, rfl, rfl⟩ | ⟨rfl, rfl, hm⟩
        · go_wp2_with (go_at_call 60; (with_reducible refine HD.out.mono ?_); rintro e w1 ⟨rfl, hm1⟩; have HM1 := Lib.hid hm1; clear hm1)
          go_roundg 0
          case measure => omega
          case rel => exact .inr ⟨rfl, by go_num, HM1.out⟩
        · have c1 := HK.out _ hm.out
          go_wp2_with (go_at_call 60; (with_reducible refine (HD2.out _ hm.out).mono ?_); rintro e w1 ⟨rfl, hm1⟩; have HM1 := Lib.hid hm1; clear hm1)
          go_ret
          exact ⟨rfl, HM.out.trans HM1.out⟩
  · have hb : (r != 0) = true := by simpa using h0
    rw [if_neg h0, if_neg h0, if_neg h0]
    go_enter Try.func19, Try.ntmps19
    go_wp2
    go_loopg [10] 0 (fun (gh : Nat) s10 wx => gh = 0 ∧ s10 = .int .i64 0 ∧ W = wx)
    case atStart => exact ⟨rfl, rfl, rfl⟩
    case round =>
      obtain ⟨rfl, rfl, rfl⟩ := hrel
      go_wp2_with (go_at_call 60; (with_reducible refine HD.out.mono ?_); rintro e w1 ⟨rfl, hm1⟩; have HM1 := Lib.hid hm1; clear hm1)
      go_ret
      exact ⟨rfl, HM.out.trans HM1.out⟩
end Go.Proofs.Ytffeinbbgfogoaa.Sr

namespace Go.Proofs.Ytffeinbbgfogoaa.Sr
open Go.RowKit Fr

theorem Pl.bothG {w W W1 W2 : World} {p q n n' : Nat} {room : Int} {s s' : S} {mb mb' : Option Nat} {L L' : List Fi} {x x' : RS} (h : Pl w W p q room n s mb L x) (mv : Mv W W1 p mb L s' mb' L') (hm : Rm W1 W2 q x x') (hl : Rl s' x') (ha : Alike x'.D L') (hg : Good x'.D n') (hr : s'.room = room) :
    Pl w W2 p q room n' s' mb' L' x' := by
  have s1 := mv.off.1.size
  have hown : ∀ j, own p mb' L' j → ¬ ro q x j := fun j hj hr => (mv.new j hj).elim (fun h3 => h.apart j h3 hr) fun h3 => by have := h.rf.lt hr; omega
  have hb1 : Below w.heap.size w W1 := h.bel.trans (mv.off.below h.lo h.bel.size)
  have hq : ∀ j, j = q → w.heap.size ≤ j := fun j e => h.lr j (.inl e)
  refine ⟨mv.st.kept hm.off (fun j hj e => hown j hj (.inl e)), hm.st, hl, ha, hg, hr, fun j hj hr => ?_, fun j hj => ?_, fun j hj => ?_, hb1.trans (hm.off.below hq hb1.size)⟩
  · rcases hm.new j hr with h3 | h3
    · exact hown j hj h3
    · have := own_lt mv.st hj; omega
  · exact (mv.new j hj).elim (h.lo j) fun h3 => Nat.le_trans h.bel.size h3
  · exact (hm.new j hj).elim (h.lr j) fun h3 => Nat.le_trans hb1.size h3
/-- Between the two: the store has turned, the reference has not. -/
theorem Pl.mid {w W W1 : World} {p q n : Nat} {room : Int} {s s' : S} {mb mb' : Option Nat} {L L' : List Fi} {x : RS} (h : Pl w W p q room n s mb L x) (mv : Mv W W1 p mb L s' mb' L') : RfR W1 q x ∧ Below w.heap.size w W1 :=
  ⟨h.rf.kept mv.off (fun j hj ho => h.apart j ho hj), h.bel.trans (mv.off.below h.lo h.bel.size)⟩
theorem Pl.arm {w W W1 : World} {p q n : Nat} {room : Int} {s : S} {mb : Option Nat} {L : List Fi} {x : RS} {z : Int} (h : Pl w W p q room n s mb L x) (hz : z ≤ 9223372036854775807) (mv : Mv W W1 p mb L (armS s z) mb L) :
    Fin w (W1.setCell ⟨q, 2, none⟩ (.int .i64 (max z (-1)))) p q room (n + 1) (armS s z) := by
  obtain ⟨h1, _⟩ := h.mid mv
  have hb := blk_set h1.blk 2 (.int .i64 (max z (-1))) (by simp)
  refine ⟨mb, L, { x with lf := max z (-1), dn := x.dn }, h.bothG mv (Rm.of_own h1 hb (grownBy_set _ _ _)) ⟨h.rl.dn, h.rl.rm, h.rl.used, ?_, fun e => ⟨of_decide_eq_true e, hz⟩⟩ h.al h.good.more h.room⟩
  show max z (-1) = if decide (0 ≤ z) = true then z else -1
  by_cases h0 : 0 ≤ z
  · rw [if_pos (decide_eq_true h0)]; omega
  · rw [if_neg (by simp [h0])]; omega
theorem Pl.revive {w W W1 : World} {p q n : Nat} {room : Int} {s : S} {mb : Option Nat} {L : List Fi} {x : RS} (h : Pl w W p q room n s mb L x) (mv : Mv W W1 p mb L { s with a := false, n := 0, d := false } mb L) :
    Fin w ((W1.setCell ⟨q, 2, none⟩ (.int .i64 (-1))).setCell ⟨q, 3, none⟩ (.bool false)) p q room (n + 1) { s with a := false, n := 0, d := false } := by
  obtain ⟨h1, _⟩ := h.mid mv
  have hb := blk_set (blk_set h1.blk 2 (.int .i64 (-1)) (by simp)) 3 (.bool false) (by simp)
  exact ⟨mb, L, { x with lf := -1, dn := false }, h.bothG mv (Rm.of_own h1 hb (grownBy_trans (grownBy_set _ _ _) (grownBy_set _ _ _))) ⟨rfl, h.rl.rm, h.rl.used, rfl, fun e => by cases e⟩ h.al h.good.more h.room⟩
/-- Drop of two names: the reference's first. -/
theorem Pl.drop1 {w W W1 : World} {p q n : Nat} {room : Int} {s : S} {mb : Option Nat} {L : List Fi} {x : RS} (k t : ByteArray) (h : Pl w W p q room n s mb L x) (hr0 : 0 ≤ room ∧ room ≤ 1000) (hn : n ≤ 980) (mv : Mv W W1 p mb L (dr2S s L k t) mb (dr2L s L k t)) :
    Calls Try.prog 20 #[.pointer (some ⟨q, 0, none⟩), .string k] W1 fun e w' => e = .returned (.int .i64 (drpE s L k)) ∧ ∃ x2, Rm W1 w' q x x2 ∧ Alike (drpL s L k) x2.D ∧ Rl (drpS s L k) x2 ∧ Good x2.D (n + 1) := by
  obtain ⟨h1, h2⟩ := h.mid mv
  have ha : Alike x.D L := h.al
  refine (drop_ref k (h.fit hr0 (by omega) h1)).mono ?_
  rintro e w' ⟨rfl, x2, hm, al, hl⟩
  obtain ⟨e1, e2⟩ := do_congr s ⟨4, 0, k, k, []⟩ h.rf.srt.keys h.st.keys ha
  have e3 : drpS s L k = drpS s x.D k := e1
  have e4 : Alike (drpL s x.D k) (drpL s L k) := e2
  refine ⟨by unfold drpE; rw [fnd_alike ha], x2, hm, e4.symm.trans al, by rw [e3]; exact hl, ?_⟩
  exact good_alike (do_good s ⟨4, 0, k, k, []⟩ h.good) hm.st.srt.keys al
/-- The second. -/
theorem Pl.drop2 {w W W1 W2 : World} {p q n : Nat} {room : Int} {s : S} {mb : Option Nat} {L : List Fi} {x x2 : RS} (k t : ByteArray) (h : Pl w W p q room n s mb L x) (hr0 : 0 ≤ room ∧ room ≤ 1000) (hn : n ≤ 980) (mv : Mv W W1 p mb L (dr2S s L k t) mb (dr2L s L k t)) (h0 : drpE s L k = 0) (hm : Rm W1 W2 q x x2) (al : Alike (drpL s L k) x2.D) (hl : Rl (drpS s L k) x2) (hg : Good x2.D (n + 1)) :
    Calls Try.prog 20 #[.pointer (some ⟨q, 0, none⟩), .string t] W2 fun e w' => e = .returned (.int .i64 (dr2E s L k t)) ∧ Fin w w' p q room (n + 2) (dr2S s L k t) := by
  have hk1 : KeysL (drpL s L k) := by
    unfold drpL
    split
    · exact keys_del h.st.keys _
    · exact h.st.keys
  have hrm : (drpS s L k).room = s.room := do_room s L ⟨4, 0, k, k, []⟩
  have hus : (drpS s L k).used = usedL x2.D := hl.used
  have h3 := h.st.room
  have h4 := h.room
  have h5 := hg.2.1
  have hsub : usedL x2.D ≤ usedL L := by
    have e1 : usedL x2.D = usedL (drpL s L k) := same_used hk1 hm.st.srt.keys al
    rw [e1]
    unfold drpL
    split
    · have := used_del L k; omega
    · exact Nat.le_refl _
  have hd2 : dr2E s L k t = drpE (drpS s L k) (drpL s L k) t := by unfold dr2E; rw [if_pos h0]
  have hs2 : dr2S s L k t = drpS (drpS s L k) (drpL s L k) t := by unfold dr2S; rw [if_pos h0]
  have hl2 : dr2L s L k t = drpL (drpS s L k) (drpL s L k) t := by unfold dr2L; rw [if_pos h0]
  refine (drop_ref t (⟨hm.st, hl, by omega, by omega, by rw [hrm]; omega⟩ : Fit W2 q x2 (drpS s L k))).mono ?_
  rintro e w' ⟨rfl, x3, hm3, al3, hl3⟩
  obtain ⟨e1, e2⟩ := do_congr (drpS s L k) ⟨4, 0, t, t, []⟩ hk1 hm.st.srt.keys al
  have e3 : drpS (drpS s L k) x2.D t = drpS (drpS s L k) (drpL s L k) t := e1
  have e4 : Alike (drpL (drpS s L k) (drpL s L k) t) (drpL (drpS s L k) x2.D t) := e2
  refine ⟨by rw [hd2]; unfold drpE; rw [fnd_alike al], mb, dr2L s L k t, x3, h.bothG mv (hm.trans hm3) ?_ ?_ (good_alike (do_good (drpS s L k) ⟨4, 0, t, t, []⟩ hg) hm3.st.srt.keys al3) ?_⟩
  · rw [hs2, ← e3]; exact hl3
  · rw [hl2]; exact (e4.trans al3).symm
  · rw [hs2, ← h4, ← hrm]; exact do_room (drpS s L k) (drpL s L k) ⟨4, 0, t, t, []⟩
/-- Or none. -/
theorem Pl.drop3 {w W W1 W2 : World} {p q n : Nat} {room : Int} {s : S} {mb : Option Nat} {L : List Fi} {x x2 : RS} (k t : ByteArray) (h : Pl w W p q room n s mb L x) (mv : Mv W W1 p mb L (dr2S s L k t) mb (dr2L s L k t)) (h0 : drpE s L k ≠ 0) (hm : Rm W1 W2 q x x2) (al : Alike (drpL s L k) x2.D) (hl : Rl (drpS s L k) x2) (hg : Good x2.D (n + 1)) :
    Fin w W2 p q room (n + 2) (dr2S s L k t) ∧ dr2E s L k t = drpE s L k := by
  have hs2 : dr2S s L k t = drpS s L k := by unfold dr2S; rw [if_neg h0]
  have hl2 : dr2L s L k t = drpL s L k := by unfold dr2L; rw [if_neg h0]
  refine ⟨⟨mb, dr2L s L k t, x2, h.bothG mv hm (by rw [hs2]; exact hl) (by rw [hl2]; exact al.symm) hg.more ?_⟩, by unfold dr2E; rw [if_neg h0]⟩
  rw [hs2, ← h.room]; exact do_room s L ⟨4, 0, k, k, []⟩
end Go.Proofs.Ytffeinbbgfogoaa.Sr
