/-
  The contracts of Next, Open, Make and Bend. Conditions: at most two million bytes.
-/
import Derived.Test.YtmcoinfdgidblaaFRead
import Derived.Lib.AppendZeros
namespace Go.Proofs.Ytmcoinfdgidblaa.Fr
open Go.RowKit

theorem bat_cells {w : World} {A : Option Addr} {n cap : Nat} {l : List Int} (h : BAt w (.slice A n cap) l) {a : Addr} (ha : A = some a) : ∀ j u, (bv l)[j]? = some u → w.cell? (a.add j) = some u := by
  intro j u hu
  have hj : j < n := by have := (List.getElem?_eq_some_iff.1 hu).1; rw [bv_len] at this; have := h.len.1; omega
  obtain ⟨g, o, h1, h2, _⟩ := h.cell j hj
  rw [ha] at h1
  cases h1
  rw [show (Addr.mk g o none).add j = ⟨g, o + j, none⟩ by unfold Addr.add; split <;> simp_all, bv_get hu]
  exact h2
/-- Bytes from anywhere behind a row of the call's own. -/
theorem app_any (w : World) (base : Nat) (v : Value) (l : List Int) (hown : w.ownsRow base 5 1 v l.length (bv l)) (x : Value) (m : List Int) (hx : BAt w x m) (hb : l.length + m.length ≤ 4000000) (hbase : base ≤ w.heap.size) :
    ∃ A cap w', (Builtin.append_ #[23, 23] 23 #[v, x]).run Try.prog w = .ok (.slice A (l.length + m.length) cap) w' ∧ w'.ownsRow base 5 1 (.slice A (l.length + m.length) cap) (l ++ m).length (bv (l ++ m)) ∧ w.grownBy w' v.ownBlock := by
  obtain ⟨i0, hi0, hz0, hz1, hz2⟩ := info_parts u8Inf
  obtain ⟨A, cap, rfl, _, hc⟩ := id hx
  cases A with
  | none =>
    have h0 : m = [] := by
      cases m with
      | nil => rfl
      | cons y r => obtain ⟨g, o, h1, _⟩ := hc (by simp); cases h1
    subst h0
    obtain ⟨A1, c1, h1, _⟩ := BAt.of_own hown
    refine ⟨A1, c1, w, ?_, ?_, grownBy_refl _ _⟩
    · show _ = Result.ok (Value.slice A1 l.length c1) w
      rw [← h1]
      rcases hown.2 with ⟨h4, _⟩ | ⟨g, cap3, cur, h4, _, _, hnc, _⟩
      · rw [h4]
        simp [Builtin.append_, run_underlying Try.underlying23, sizeOf, typeInfo, hi0, Builtin.lenOf, Builtin.firstCells]
      · rw [h4]
        simp [Builtin.append_, run_underlying Try.underlying23, sizeOf, typeInfo, hi0, Builtin.lenOf, Builtin.firstCells, hnc, storeCells]
    · rw [h1] at hown
      rw [List.append_nil]
      exact hown
  | some a =>
    obtain ⟨v', w', hr, ho, hg, _⟩ := run_append_own (P := Try.prog) w base 23 23 5 i0 (.int .u8 0) 1 1 Try.underlying23 hi0 hz0 hz1 hz2 rfl (by decide) v l.length (bv l) hown a m.length cap (bv m) (by rw [bv_len, Nat.mul_one]) (bat_cells hx rfl) (bv_one _) (by unfold maxLen; omega) (by omega) hbase
    rw [← bv_app] at ho
    have ho2 : w'.ownsRow base 5 1 v' (l ++ m).length (bv (l ++ m)) := by rw [List.length_append]; exact ho
    obtain ⟨A1, c1, h1, _⟩ := BAt.of_own ho2
    rw [List.length_append] at h1
    subst h1
    exact ⟨A1, c1, w', hr, ho2, hg⟩

set_option maxRecDepth 100000 in
set_option maxHeartbeats 1000000 in
theorem next_any (w : World) (v : Value) (l : List Int) (h : BAt w v l) (hb : bok l) (hn : l.length ≤ 2000000) : Calls Try.prog 15 #[v] w fun e w' => Fst l e w' ∧ Below w.heap.size w w' := by
  have HF := Lib.hid (first_any w v l h hb hn)
  obtain ⟨B, hB⟩ : ∃ B, B = nxB l := ⟨_, rfl⟩
  obtain ⟨N, hN⟩ : ∃ N, N = nxN l := ⟨_, rfl⟩
  obtain ⟨E, hE⟩ : ∃ E, E = nxE l := ⟨_, rfl⟩
  have HBL : Hid (B.length ≤ 2000000) := by
    show _ ≤ _
    rw [hB]; unfold nxB; split
    · rw [List.length_take, List.length_drop]; omega
    · simp
  have HD : Hid (B = nxB l ∧ N = nxN l ∧ E = nxE l) := ⟨hB, hN, hE⟩
  clear h hb hn hB hN hE
  go_enter Try.func15, Try.ntmps15
  go_wp2_with (first
    | (go_at_call 25; refine (clone_any w1 _ B HA.out HBL.out).mono ?_; rintro e w2 ⟨u, rfl, ho, hb2⟩
       obtain ⟨A2, n2, c2, rfl⟩ : ∃ A n c, u = Value.slice A n c := (by obtain ⟨A, c, h, _⟩ := BAt.of_own ho; exact ⟨A, _, c, h⟩)
       have HO := Lib.hid (BAt.of_own ho)
       have HB2 := Lib.hid (HB1.out.trans (hb2.mono HB1.out.size))
       clear ho hb2)
    | (go_at_call 24; refine HF.out.mono ?_; rintro e w1 ⟨⟨A1, c1, rfl, ha⟩, hb1⟩
       rw [← HD.out.1] at ha
       rw [← HD.out.1, ← HD.out.2.1, ← HD.out.2.2]
       have HA := Lib.hid ha
       have HB1 := Lib.hid hb1
       clear ha hb1))
  go_ret3
  refine ⟨⟨A2, c2, ?_, ?_⟩, HB2.out⟩
  · have := HO.out.len.1
    rw [← HD.out.1, ← HD.out.2.1, ← HD.out.2.2, this]; rfl
  · rw [← HD.out.1]
    have := HO.out.len.1
    rw [this]
    exact HO.out

/-- What Open tells. -/
def Opn (l : List Int) (e : Ending) (w' : World) : Prop := ∃ A c, e = .returned (.tuple #[.slice A (opB l).length c, .int .i64 (opE l)]) ∧ BAt w' (.slice A (opB l).length c) (opB l)
set_option maxRecDepth 100000 in
set_option maxHeartbeats 1000000 in
theorem open_any (w : World) (v : Value) (l : List Int) (h : BAt w v l) (hb : bok l) (hn : l.length ≤ 2000000) : Calls Try.prog 9 #[v] w fun e w' => Opn l e w' ∧ Below w.heap.size w w' := by
  have HF := Lib.hid (next_any w v l h hb hn)
  obtain ⟨A, cap, rfl, _⟩ := h
  obtain ⟨n, hn1⟩ : ∃ n, n = l.length := ⟨_, rfl⟩
  rw [← hn1] at HF ⊢
  obtain ⟨B, hB⟩ : ∃ B, B = nxB l := ⟨_, rfl⟩
  obtain ⟨N, hN⟩ : ∃ N, N = nxN l := ⟨_, rfl⟩
  obtain ⟨E, hE⟩ : ∃ E, E = nxE l := ⟨_, rfl⟩
  have HD : Hid (B = nxB l ∧ N = nxN l ∧ E = nxE l) := ⟨hB, hN, hE⟩
  have HY : Hid (E = 0 → N < n → opB l = [] ∧ opE l = 3) := fun h1 h2 => by
    have h3 : nxE l = 0 := by rw [← hE]; exact h1
    have h4 : N = nn l + 8 := by rw [hN]; exact if_pos h3
    have h5 : opE l = 3 := if_pos ⟨h3, by omega⟩
    exact ⟨if_neg (by rw [h5]; decide), h5⟩
  have HX : Hid (¬ (E = 0 ∧ N < n) → opB l = B ∧ opE l = E) := fun h1 => by
    have h5 : opE l = nxE l := if_neg (fun h2 => h1 ⟨by rw [hE]; exact h2.1, by rw [hN, hn1]; unfold nxN; rw [if_pos h2.1]; exact h2.2⟩)
    refine ⟨?_, by rw [h5, hE]⟩
    unfold opB
    rw [h5, hB]
    rfl
  clear hb hn hB hN hE hn1
  by_cases hE0 : E = 0
  · by_cases hNn : N < n
    · have t1 : (N : Int) < (n : Int) := by omega
      obtain ⟨k1, k2⟩ := HY.out hE0 hNn
      have K := Lib.hid k1
      have K2 := Lib.hid k2
      subst hE0
      clear k1 k2
      go_enter Try.func9, Try.ntmps9
      go_wp2_with (go_at_call 15; refine HF.out.mono ?_; rintro e w1 ⟨⟨A1, c1, rfl, ha⟩, hb1⟩
                   rw [← HD.out.1, ← HD.out.2.1, ← HD.out.2.2]
                   have HB1 := Lib.hid hb1
                   clear ha hb1)
      go_ret2
      refine ⟨⟨none, 0, ?_, ?_⟩, HB1.out⟩
      · rw [K.out, K2.out]; rfl
      · rw [K.out]; exact BAt.nil _
    · have t1 : ¬ (N : Int) < (n : Int) := by omega
      obtain ⟨k1, k2⟩ := HX.out (fun h => hNn h.2)
      have K := Lib.hid k1
      have K2 := Lib.hid k2
      subst hE0
      clear k1 k2
      go_enter Try.func9, Try.ntmps9
      go_wp2_with (go_at_call 15; refine HF.out.mono ?_; rintro e w1 ⟨⟨A1, c1, rfl, ha⟩, hb1⟩
                   rw [← HD.out.1] at ha
                   rw [← HD.out.1, ← HD.out.2.1, ← HD.out.2.2]
                   have HA := Lib.hid ha
                   have HB1 := Lib.hid hb1
                   clear ha hb1)
      go_ret2
      refine ⟨⟨A1, c1, ?_, ?_⟩, HB1.out⟩
      · rw [K.out, K2.out]; rfl
      · rw [K.out]; exact HA.out
  · obtain ⟨k1, k2⟩ := HX.out (fun h => hE0 h.1)
    have K := Lib.hid k1
    have K2 := Lib.hid k2
    clear k1 k2
    go_enter Try.func9, Try.ntmps9
    go_wp2_with (go_at_call 15; refine HF.out.mono ?_; rintro e w1 ⟨⟨A1, c1, rfl, ha⟩, hb1⟩
                 rw [← HD.out.1] at ha
                 rw [← HD.out.1, ← HD.out.2.1, ← HD.out.2.2]
                 have HA := Lib.hid ha
                 have HB1 := Lib.hid hb1
                 clear ha hb1)
    go_ret2
    refine ⟨⟨A1, c1, ?_, ?_⟩, HB1.out⟩
    · rw [K.out, K2.out]; rfl
    · rw [K.out]; exact HA.out
end Go.Proofs.Ytmcoinfdgidblaa.Fr
