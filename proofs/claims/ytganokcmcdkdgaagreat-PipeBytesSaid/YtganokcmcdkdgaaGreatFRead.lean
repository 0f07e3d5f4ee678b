/-
  The contracts of first, Next and Open: what stands at the beginning of bytes. Conditions: at most two million bytes.
-/
import Derived.Test.YtganokcmcdkdgaaGreatPZ7
namespace Go.Proofs.YtganokcmcdkdgaaGreat.Fr
open Go.RowKit

/-- What is read of l: a piece of it, how many bytes the frame has, and what is wrong. -/
def Fst (l : List Int) (e : Ending) (w' : World) : Prop := ∃ A c, e = .returned (.tuple #[.slice A (nxB l).length c, .int .i64 (nxN l : Int), .int .i64 (nxE l)]) ∧ BAt w' (.slice A (nxB l).length c) (nxB l)
theorem fst_bad {l : List Int} {x : Int} (hx : nxE l = x) (h0 : ¬ x = 0) (w : World) : Fst l (.returned (.tuple #[.slice none 0 0, .int .i64 0, .int .i64 x])) w := by
  have h1 : nxB l = [] := if_neg (by rw [hx]; exact h0)
  have h2 : nxN l = 0 := if_neg (by rw [hx]; exact h0)
  refine ⟨none, 0, ?_, ?_⟩
  · rw [h1, h2, hx]; rfl
  · rw [h1]; exact BAt.nil w
/-- The bytes' block is one of K. -/
def BK (K : Nat → Prop) (v : Value) (l : List Int) : Prop := 0 < l.length → ∀ a n c, v = .slice (some a) n c → K a.block
def FstK (K : Nat → Prop) (l : List Int) (e : Ending) (w' : World) : Prop := ∃ A c, e = .returned (.tuple #[.slice A (nxB l).length c, .int .i64 (nxN l : Int), .int .i64 (nxE l)]) ∧ BAt w' (.slice A (nxB l).length c) (nxB l) ∧ BK K (.slice A (nxB l).length c) (nxB l)
theorem FstK.fst {K : Nat → Prop} {l : List Int} {e : Ending} {w' : World} (h : FstK K l e w') : Fst l e w' := by
  obtain ⟨A, c, h1, h2, _⟩ := h
  exact ⟨A, c, h1, h2⟩
theorem fst_badK {l : List Int} {x : Int} (hx : nxE l = x) (h0 : ¬ x = 0) (K : Nat → Prop) (w : World) : FstK K l (.returned (.tuple #[.slice none 0 0, .int .i64 0, .int .i64 x])) w := by
  have h1 : nxB l = [] := if_neg (by rw [hx]; exact h0)
  have h2 : nxN l = 0 := if_neg (by rw [hx]; exact h0)
  refine ⟨none, 0, ?_, ?_, fun h => ?_⟩
  · rw [h1, h2, hx]; rfl
  · rw [h1]; exact BAt.nil w
  · rw [h1] at h; exact absurd h (by decide)
set_option maxRecDepth 100000 in
theorem first_short (K : Nat → Prop) (w : World) (A : Option Addr) (n cap : Nat) (l : List Int) (h : BAt w (.slice A n cap) l) (hn : n < 8) :
    Calls Tryz.prog 78 #[.slice A n cap] w fun e w' => FstK K l e w' ∧ Below w.heap.size w w' := by
  have hl := h.len.1
  have HF := Lib.hid (fst_badK (l := l) (x := 12) (by unfold nxE; rw [if_pos (by omega)]) (by decide) K)
  have t1 : (n : Int) < 8 := by omega
  clear h hl
  go_enter Tryz.func78, Tryz.ntmps78
  go_wp2
  go_ret3
  exact ⟨HF.out w, Below.refl _ _⟩
set_option maxRecDepth 100000 in
set_option maxHeartbeats 4000000 in
theorem first_more (K : Nat → Prop) (w : World) (A : Option Addr) (n cap : Nat) (l : List Int) (h : BAt w (.slice A n cap) l) (hb : bok l) (hn : 8 ≤ n) (hn2 : n ≤ 2000000) (hK : BK K (.slice A n cap) l) :
    Calls Tryz.prog 78 #[.slice A n cap] w fun e w' => FstK K l e w' ∧ Below w.heap.size w w' := by
  obtain ⟨hl, hcap⟩ := h.len
  obtain ⟨g, o, rfl⟩ := h.place (by omega)
  have HKG : Hid (K g) := hK (by omega) ⟨g, o, none⟩ n cap rfl
  clear hK
  obtain ⟨m, hm⟩ : ∃ m, m = nn l := ⟨_, rfl⟩
  have h4 := (h.take 4 (by omega)).1
  have hm2 : m < 4294967296 := by rw [hm]; exact numF_lt (by rw [List.length_take]; omega) (bok_take hb 4)
  have HN : Hid (Calls Tryz.prog 96 #[.slice (some ⟨g, o, none⟩) 4 cap] w fun e w' => e = .returned (.int .u32 (m : Int)) ∧ w = w') := by
    have := number_any w _ _ h4 (bok_take hb 4) (by rw [List.length_take]; omega)
    rw [hm]; exact this
  have hs1 : ∀ W : World, (Instr.slice 22 (.slice (some ⟨g, o, none⟩) n cap) none (some (.int .i64 4)) none).run Tryz.prog W = .ok (.slice (some ⟨g, o, none⟩) 4 cap) W := slice_to _ n cap 4 (by omega)
  have t1 : ¬ (n : Int) < 8 := by omega
  by_cases hlong : 1048568 < m
  · have t2 : (1048568 : Int) < (m : Int) := by omega
    have HF := Lib.hid (fst_badK (l := l) (x := 2) (by unfold nxE; rw [if_neg (by omega), if_pos (by omega)]) (by decide) K)
    clear h hl hm h4
    go_enter Tryz.func78, Tryz.ntmps78
    go_wp2_with (go_at_call 96; refine HN.out.mono ?_; rintro e w1 ⟨rfl, rfl⟩)
    go_ret3
    exact ⟨HF.out w, Below.refl _ _⟩
  have t2 : ¬ (1048568 : Int) < (m : Int) := by omega
  have c1 : IntKind.i64.wrap (m : Int) = (m : Int) := by rw [IntKind.wrap_i64]; omega
  obtain ⟨q, hq⟩ : ∃ q, q = m + 4 := ⟨_, rfl⟩
  obtain ⟨r, hr⟩ : ∃ r, r = m + 8 := ⟨_, rfl⟩
  have e1 : 4 + (m : Int) = (q : Int) := by omega
  have e2 : (q : Int) + 4 = (r : Int) := by omega
  by_cases hend : n < r
  · have t3 : (n : Int) < (r : Int) := by omega
    have HF := Lib.hid (fst_badK (l := l) (x := 12) (by unfold nxE; rw [if_neg (by omega), if_neg (by omega), if_pos (by omega)]) (by decide) K)
    have b1 : r ≤ 1048576 := by omega
    clear h hl hm h4 hq hr
    go_enter Tryz.func78, Tryz.ntmps78
    go_wp2_with (go_at_call 96; refine HN.out.mono ?_; rintro e w1 ⟨rfl, rfl⟩)
    go_ret3
    exact ⟨HF.out w, Below.refl _ _⟩
  have t3 : ¬ (n : Int) < (r : Int) := by omega
  have b1 : r ≤ 1048576 := by omega
  obtain ⟨A3, hA3, hs4⟩ := slice_cap g o n cap 4 q (by omega) (by omega)
  have hs2 : ∀ W : World, (Instr.slice 22 (.slice (some ⟨g, o, none⟩) n cap) (some (.int .i64 (q : Int))) (some (.int .i64 (r : Int))) none).run Tryz.prog W = .ok (.slice (some ⟨g, o + q, none⟩) 4 (cap - q)) W := fun W => by
    have := slice_mid g o n cap q r (by omega) (by omega) (by omega) W
    rw [show r - q = 4 by omega] at this
    exact this
  have hs3 := slice_to (some ⟨g, o, none⟩) n cap q (by omega)
  have hs5 : ∀ W : World, (Instr.slice 22 (.slice (some ⟨g, o, none⟩) n cap) (some (.int .i64 4)) (some (.int .i64 (q : Int))) (some (.int .i64 (q : Int)))).run Tryz.prog W = .ok (.slice A3 m m) W := fun W => by
    have := hs4 W
    rw [show q - 4 = m by omega] at this
    exact this
  clear hs4
  have htl : BAt w (.slice (some ⟨g, o + q, none⟩) 4 (cap - q)) (tail4 l) := by
    have h1 := h.mid q r (cap - q) (some ⟨g, o + q, none⟩) (fun _ => rfl) (by omega) (by omega) (by omega)
    rw [show r - q = 4 by omega] at h1
    unfold tail4
    rw [← hm, ← hq]
    exact h1
  have htk := (h.take q (by omega)).1
  have hbd : BAt w (.slice A3 m m) ((l.drop 4).take m) := by
    have h1 := h.mid 4 q m A3 hA3 (by omega) (by omega) (by omega)
    rw [show q - 4 = m by omega] at h1
    exact h1
  have htl4 : (tail4 l).length = 4 := by
    have := htl.len.1
    exact this
  obtain ⟨z, hz⟩ : ∃ z, z = numF 0 (tail4 l) := ⟨_, rfl⟩
  obtain ⟨x, hx⟩ : ∃ x, x = crc (l.take q) := ⟨_, rfl⟩
  have HN2 : Hid (∀ W, Below w.heap.size w W → Calls Tryz.prog 96 #[.slice (some ⟨g, o + q, none⟩) 4 (cap - q)] W fun e w' => e = .returned (.int .u32 (z : Int)) ∧ W = w') := by
    intro W hW
    rw [hz]
    exact number_any W _ _ (htl.kept hW) (by unfold tail4; exact bok_take (bok_drop hb _) _) htl4
  have HSM : Hid (Calls Tryz.prog 49 #[.slice (some ⟨w.heap.size, 0, none⟩) 1 1] (w.alloc (.cells #[.slice (some ⟨g, o, none⟩) q cap] 22)).drew fun e w' => e = .returned (.int .u32 (x : Int)) ∧ (w.alloc (.cells #[.slice (some ⟨g, o, none⟩) q cap] 22)).drew = w') := by
    have h1 := sum_any _ _ _ ((PAt.one htk).kept (Below.refl _ _).drew) (boks_one (bok_take hb q) (by rw [List.length_take]; omega))
    rw [List.flatten_cons, List.flatten_nil, List.append_nil, ← hx] at h1
    exact h1
  have HB0 : Hid (Below w.heap.size w w.drew) := (Below.refl _ w).drew
  have HB1 : Hid (Below w.heap.size w (w.alloc (.cells #[.slice (some ⟨g, o, none⟩) q cap] 22)).drew) := ((Below.refl _ w).alloc (Nat.le_refl _) _).drew
  have HBD := Lib.hid hbd
  have HOK : Hid (z = x → nxE l = 0) := fun hzx => nxE_mk (by omega) (by omega) (by rw [← hz, hzx, hx, hq, hm])
  have HNO : Hid (¬ z = x → nxE l = 11) := fun hzx => by
    unfold nxE
    rw [if_neg (by omega), if_neg (by omega), if_neg (by omega), if_neg (by rw [← hz, ← hm, ← hq, ← hx]; exact hzx)]
  have HQ : Hid (m = nn l ∧ r = m + 8) := ⟨hm, hr⟩
  have HA3 : Hid (0 < m → A3 = some ⟨g, o + 4, none⟩) := fun h => hA3 (by omega)
  clear h hl hm h4 hq hr htl htk hbd htl4 hz hx hA3
  by_cases hzx : z = x
  · subst hzx
    have HE := HOK.out rfl
    have HF : Hid (∀ W, Below w.heap.size w W → FstK K l (.returned (.tuple #[.slice A3 m m, .int .i64 (r : Int), .int .i64 0])) W) := fun W hW => by
      have e1 : nxB l = (l.drop 4).take m := by unfold nxB; rw [if_pos HE, HQ.out.1]
      have e2 : nxN l = r := by unfold nxN; rw [if_pos HE, ← HQ.out.1, HQ.out.2]
      have e3 := HBD.out.len.1
      rw [← e1] at e3
      exact ⟨A3, m, by rw [e2, HE, e3], by rw [e3, e1]; exact HBD.out.kept hW, fun hp a n c ha => by
        rw [HA3.out (by omega)] at ha
        cases ha
        exact HKG.out⟩
    clear HE
    go_enter Tryz.func78, Tryz.ntmps78
    go_wp2_with (go_at_call 96; refine HN.out.mono ?_; rintro e w1 ⟨rfl, rfl⟩)
    go_region_held3 (fun _ => True) (trivial)
      (first
        | (go_at_call 49; (with_reducible refine HSM.out.mono ?_); rintro e w1 ⟨rfl, rfl⟩)
        | (go_at_call 96; (with_reducible refine (HN2.out _ HB0.out).mono ?_); rintro e w1 ⟨rfl, rfl⟩)
        | (go_at_call 96; (with_reducible refine (HN2.out _ HB1.out).mono ?_); rintro e w1 ⟨rfl, rfl⟩))
    all_goals
      go_wp2
      go_ret3
      exact ⟨HF.out _ HB1.out, HB1.out⟩
  · have HF := Lib.hid (fst_badK (l := l) (x := 11) (HNO.out hzx) (by decide) K)
    have t4 : decide ((z : Int) = (x : Int)) = false := by simp; omega
    clear HOK HNO
    go_enter Tryz.func78, Tryz.ntmps78
    go_wp2_with (go_at_call 96; refine HN.out.mono ?_; rintro e w1 ⟨rfl, rfl⟩)
    go_region_held3 (fun _ => True) (trivial)
      (first
        | (go_at_call 49; (with_reducible refine HSM.out.mono ?_); rintro e w1 ⟨rfl, rfl⟩)
        | (go_at_call 96; (with_reducible refine (HN2.out _ HB0.out).mono ?_); rintro e w1 ⟨rfl, rfl⟩)
        | (go_at_call 96; (with_reducible refine (HN2.out _ HB1.out).mono ?_); rintro e w1 ⟨rfl, rfl⟩))
    all_goals
      go_wp2
      go_ret3
      exact ⟨HF.out _, HB1.out⟩
theorem first_in (K : Nat → Prop) (w : World) (v : Value) (l : List Int) (h : BAt w v l) (hb : bok l) (hn : l.length ≤ 2000000) (hK : BK K v l) : Calls Tryz.prog 78 #[v] w fun e w' => FstK K l e w' ∧ Below w.heap.size w w' := by
  obtain ⟨A, cap, h1, h2, h3⟩ := h
  subst h1
  by_cases h8 : l.length < 8
  · exact first_short K w A l.length cap l ⟨A, cap, rfl, h2, h3⟩ h8
  · exact first_more K w A l.length cap l ⟨A, cap, rfl, h2, h3⟩ hb (by omega) hn hK
theorem first_any (w : World) (v : Value) (l : List Int) (h : BAt w v l) (hb : bok l) (hn : l.length ≤ 2000000) : Calls Tryz.prog 78 #[v] w fun e w' => Fst l e w' ∧ Below w.heap.size w w' :=
  (first_in (fun _ => True) w v l h hb hn (fun _ _ _ _ _ => trivial)).mono fun _ _ h => ⟨h.1.fst, h.2⟩
end Go.Proofs.YtganokcmcdkdgaaGreat.Fr
