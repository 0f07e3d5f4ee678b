/-
  The contracts of first, Next and Open: what stands at the beginning of bytes. Conditions: at most two million bytes.
-/
import Derived.Test.YtklngdmpledgeaaGreatJZ1
import Derived.Lib.AppendZeros
import Derived.Lib.SlBytesConst
namespace Go.Proofs.YtklngdmpledgeaaGreat.Fr
open Go.RowKit

/-- What is read of l: a piece of it, how many bytes the frame has, and what is wrong. -/
def Fst (l : List Int) (e : Ending) (w' : World) : Prop := ∃ A c, e = .returned (.tuple #[.slice A (nxB l).length c, .int .i64 (nxN l : Int), .int .i64 (nxE l)]) ∧ BAt w' (.slice A (nxB l).length c) (nxB l)
theorem fst_bad {l : List Int} {x : Int} (hx : nxE l = x) (h0 : ¬ x = 0) (w : World) : Fst l (.returned (.tuple #[.slice none 0 0, .int .i64 0, .int .i64 x])) w := by
  have h1 : nxB l = [] := if_neg (by rw [hx]; exact h0)
  have h2 : nxN l = 0 := if_neg (by rw [hx]; exact h0)
  refine ⟨none, 0, ?_, ?_⟩
  · rw [h1, h2, hx]; rfl
  · rw [h1]; exact BAt.nil w
/-- The bytes' block is one of K. -/
def BK (K : Nat → Prop) (v : Value) (l : List Int) : Prop := 0 < l.length → ∀ a n c, v = .slice (some a) n c → K a.block
def FstK (K : Nat → Prop) (l : List Int) (e : Ending) (w' : World) : Prop := ∃ A c, e = .returned (.tuple #[.slice A (nxB l).length c, .int .i64 (nxN l : Int), .int .i64 (nxE l)]) ∧ BAt w' (.slice A (nxB l).length c) (nxB l) ∧ BK K (.slice A (nxB l).length c) (nxB l)
theorem FstK.fst {K : Nat → Prop} {l : List Int} {e : Ending} {w' : World} (h : FstK K l e w') : Fst l e w' := by
  obtain ⟨A, c, h1, h2, _⟩ := h
  exact ⟨A, c, h1, h2⟩
theorem fst_badK {l : List Int} {x : Int} (hx : nxE l = x) (h0 : ¬ x = 0) (K : Nat → Prop) (w : World) : FstK K l (.returned (.tuple #[.slice none 0 0, .int .i64 0, .int .i64 x])) w := by
  have h1 : nxB l = [] := if_neg (by rw [hx]; exact h0)
  have h2 : nxN l = 0 := if_neg (by rw [hx]; exact h0)
  refine ⟨none, 0, ?_, ?_, fun h => ?_⟩
  · rw [h1, h2, hx]; rfl
  · rw [h1]; exact BAt.nil w
  · rw [h1] at h; exact absurd h (by decide)
set_option maxRecDepth 100000 in
theorem first_short (K : Nat → Prop) (w : World) (A : Option Addr) (n cap : Nat) (l : List Int) (h : BAt w (.slice A n cap) l) (hn : n < 8) :
    Calls Tryz.prog 88 #[.slice A n cap] w fun e w' => FstK K l e w' ∧ Below w.heap.size w w' := by
  have hl := h.len.1
  have HF := Lib.hid (fst_badK (l := l) (x := 12) (by unfold nxE; rw [if_pos (by omega)]) (by decide) K)
  have t1 : (n : Int) < 8 := by omega
  clear h hl
  go_enter Tryz.func88, Tryz.ntmps88
  go_wp2
  go_ret3
  exact ⟨HF.out w, Below.refl _ _⟩
set_option maxRecDepth 100000 in
set_option maxHeartbeats 4000000 in
theorem first_more (K : Nat → Prop) (w : World) (A : Option Addr) (n cap : Nat) (l : List Int) (h : BAt w (.slice A n cap) l) (hb : bok l) (hn : 8 ≤ n) (hn2 : n ≤ 2000000) (hK : BK K (.slice A n cap) l) :
    Calls Tryz.prog 88 #[.slice A n cap] w fun e w' => FstK K l e w' ∧ Below w.heap.size w w' := by
  obtain ⟨hl, hcap⟩ := h.len
  obtain ⟨g, o, rfl⟩ := h.place (by omega)
  have HKG : Hid (K g) := hK (by omega) ⟨g, o, none⟩ n cap rfl
  clear hK
  obtain ⟨m, hm⟩ : ∃ m, m = nn l := ⟨_, rfl⟩
  have h4 := (h.take 4 (by omega)).1
  have hm2 : m < 4294967296 := by rw [hm]; exact numF_lt (by rw [List.length_take]; omega) (bok_take hb 4)
  have HN : Hid (Calls Tryz.prog 104 #[.slice (some ⟨g, o, none⟩) 4 cap] w fun e w' => e = .returned (.int .u32 (m : Int)) ∧ w = w') := by
    have := number_any w _ _ h4 (bok_take hb 4) (by rw [List.length_take]; omega)
    rw [hm]; exact this
  have hs1 : ∀ W : World, (Instr.slice 22 (.slice (some ⟨g, o, none⟩) n cap) none (some (.int .i64 4)) none).run Tryz.prog W = .ok (.slice (some ⟨g, o, none⟩) 4 cap) W := slice_to _ n cap 4 (by omega)
  have t1 : ¬ (n : Int) < 8 := by omega
  by_cases hlong : 1048568 < m
  · have t2 : (1048568 : Int) < (m : Int) := by omega
    have HF := Lib.hid (fst_badK (l := l) (x := 2) (by unfold nxE; rw [if_neg (by omega), if_pos (by omega)]) (by decide) K)
    clear h hl hm h4
    go_enter Tryz.func88, Tryz.ntmps88
    go_wp2_with (go_at_call 104; refine HN.out.mono ?_; rintro e w1 ⟨rfl, rfl⟩)
    go_ret3
    exact ⟨HF.out w, Below.refl _ _⟩
  have t2 : ¬ (1048568 : Int) < (m : Int) := by omega
  have c1 : IntKind.i64.wrap (m : Int) = (m : Int) := by rw [IntKind.wrap_i64]; omega
  obtain ⟨q, hq⟩ : ∃ q, q = m + 4 := ⟨_, rfl⟩
  obtain ⟨r, hr⟩ : ∃ r, r = m + 8 := ⟨_, rfl⟩
  have e1 : 4 + (m : Int) = (q : Int) := by omega
  have e2 : (q : Int) + 4 = (r : Int) := by omega
  by_cases hend : n < r
  · have t3 : (n : Int) < (r : Int) := by omega
    have HF := Lib.hid (fst_badK (l := l) (x := 12) (by unfold nxE; rw [if_neg (by omega), if_neg (by omega), if_pos (by omega)]) (by decide) K)
    have b1 : r ≤ 1048576 := by omega
    clear h hl hm h4 hq hr
    go_enter Tryz.func88, Tryz.ntmps88
    go_wp2_with (go_at_call 104; refine HN.out.mono ?_; rintro e w1 ⟨rfl, rfl⟩)
    go_ret3
    exact ⟨HF.out w, Below.refl _ _⟩
  have t3 : ¬ (n : Int) < (r : Int) := by omega
  have b1 : r ≤ 1048576 := by omega
  obtain ⟨A3, hA3, hs4⟩ := slice_cap g o n cap 4 q (by omega) (by omega)
  have hs2 : ∀ W : World, (Instr.slice 22 (.slice (some ⟨g, o, none⟩) n cap) (some (.int .i64 (q : Int))) (some (.int .i64 (r : Int))) none).run Tryz.prog W = .ok (.slice (some ⟨g, o + q, none⟩) 4 (cap - q)) W := fun W => by
    have := slice_mid g o n cap q r (by omega) (by omega) (by omega) W
    rw [show r - q = 4 by omega] at this
    exact this
  have hs3 := slice_to (some ⟨g, o, none⟩) n cap q (by omega)
  have hs5 : ∀ W : World, (Instr.slice 22 (.slice (some ⟨g, o, none⟩) n cap) (some (.int .i64 4)) (some (.int .i64 (q : Int))) (some (.int .i64 (q : Int)))).run Tryz.prog W = .ok (.slice A3 m m) W := fun W => by
    have := hs4 W
    rw [show q - 4 = m by omega] at this
    exact this
  clear hs4
  have htl : BAt w (.slice (some ⟨g, o + q, none⟩) 4 (cap - q)) (tail4 l) := by
    have h1 := h.mid q r (cap - q) (some ⟨g, o + q, none⟩) (fun _ => rfl) (by omega) (by omega) (by omega)
    rw [show r - q = 4 by omega] at h1
    unfold tail4
    rw [← hm, ← hq]
    exact h1
  have htk := (h.take q (by omega)).1
  have hbd : BAt w (.slice A3 m m) ((l.drop 4).take m) := by
    have h1 := h.mid 4 q m A3 hA3 (by omega) (by omega) (by omega)
    rw [show q - 4 = m by omega] at h1
    exact h1
  have htl4 : (tail4 l).length = 4 := by
    have := htl.len.1
    exact this
  obtain ⟨z, hz⟩ : ∃ z, z = numF 0 (tail4 l) := ⟨_, rfl⟩
  obtain ⟨x, hx⟩ : ∃ x, x = crc (l.take q) := ⟨_, rfl⟩
  have HN2 : Hid (∀ W, Below w.heap.size w W → Calls Tryz.prog 104 #[.slice (some ⟨g, o + q, none⟩) 4 (cap - q)] W fun e w' => e = .returned (.int .u32 (z : Int)) ∧ W = w') := by
    intro W hW
    rw [hz]
    exact number_any W _ _ (htl.kept hW) (by unfold tail4; exact bok_take (bok_drop hb _) _) htl4
  have HSM : Hid (Calls Tryz.prog 83 #[.slice (some ⟨w.heap.size, 0, none⟩) 1 1] (w.alloc (.cells #[.slice (some ⟨g, o, none⟩) q cap] 22)).drew fun e w' => e = .returned (.int .u32 (x : Int)) ∧ (w.alloc (.cells #[.slice (some ⟨g, o, none⟩) q cap] 22)).drew = w') := by
    have h1 := sum_any _ _ _ ((PAt.one htk).kept (Below.refl _ _).drew) (boks_one (bok_take hb q) (by rw [List.length_take]; omega))
    rw [List.flatten_cons, List.flatten_nil, List.append_nil, ← hx] at h1
    exact h1
  have HB0 : Hid (Below w.heap.size w w.drew) := (Below.refl _ w).drew
  have HB1 : Hid (Below w.heap.size w (w.alloc (.cells #[.slice (some ⟨g, o, none⟩) q cap] 22)).drew) := ((Below.refl _ w).alloc (Nat.le_refl _) _).drew
  have HBD := Lib.hid hbd
  have HOK : Hid (z = x → nxE l = 0) := fun hzx => nxE_mk (by omega) (by omega) (by rw [← hz, hzx, hx, hq, hm])
  have HNO : Hid (¬ z = x → nxE l = 11) := fun hzx => by
    unfold nxE
    rw [if_neg (by omega), if_neg (by omega), if_neg (by omega), if_neg (by rw [← hz, ← hm, ← hq, ← hx]; exact hzx)]
  have HQ : Hid (m = nn l ∧ r = m + 8) := ⟨hm, hr⟩
  have HA3 : Hid (0 < m → A3 = some ⟨g, o + 4, none⟩) := fun h => hA3 (by omega)
  clear h hl hm h4 hq hr htl htk hbd htl4 hz hx hA3
  by_cases hzx : z = x
  · subst hzx
    have HE := HOK.out rfl
    have HF : Hid (∀ W, Below w.heap.size w W → FstK K l (.returned (.tuple #[.slice A3 m m, .int .i64 (r : Int), .int .i64 0])) W) := fun W hW => by
      have e1 : nxB l = (l.drop 4).take m := by unfold nxB; rw [if_pos HE, HQ.out.1]
      have e2 : nxN l = r := by unfold nxN; rw [if_pos HE, ← HQ.out.1, HQ.out.2]
      have e3 := HBD.out.len.1
      rw [← e1] at e3
      exact ⟨A3, m, by rw [e2, HE, e3], by rw [e3, e1]; exact HBD.out.kept hW, fun hp a n c ha => by
        rw [HA3.out (by omega)] at ha
        cases ha
        exact HKG.out⟩
    clear HE
    go_enter Tryz.func88, Tryz.ntmps88
    go_wp2_with (go_at_call 104; refine HN.out.mono ?_; rintro e w1 ⟨rfl, rfl⟩)
    go_region_held3 (fun _ => True) (trivial)
      (first
        | (go_at_call 83; (with_reducible refine HSM.out.mono ?_); rintro e w1 ⟨rfl, rfl⟩)
        | (go_at_call 104; (with_reducible refine (HN2.out _ HB0.out).mono ?_); rintro e w1 ⟨rfl, rfl⟩)
        | (go_at_call 104; (with_reducible refine (HN2.out _ HB1.out).mono ?_); rintro e w1 ⟨rfl, rfl⟩))
    all_goals
      go_wp2
      go_ret3
      exact ⟨HF.out _ HB1.out, HB1.out⟩
  · have HF := Lib.hid (fst_badK (l := l) (x := 11) (HNO.out hzx) (by decide) K)
    have t4 : decide ((z : Int) = (x : Int)) = false := by simp; omega
    clear HOK HNO
    go_enter Tryz.func88, Tryz.ntmps88
    go_wp2_with (go_at_call 104; refine HN.out.mono ?_; rintro e w1 ⟨rfl, rfl⟩)
    go_region_held3 (fun _ => True) (trivial)
      (first
        | (go_at_call 83; (with_reducible refine HSM.out.mono ?_); rintro e w1 ⟨rfl, rfl⟩)
        | (go_at_call 104; (with_reducible refine (HN2.out _ HB0.out).mono ?_); rintro e w1 ⟨rfl, rfl⟩)
        | (go_at_call 104; (with_reducible refine (HN2.out _ HB1.out).mono ?_); rintro e w1 ⟨rfl, rfl⟩))
    all_goals
      go_wp2
      go_ret3
      exact ⟨HF.out _, HB1.out⟩
theorem first_in (K : Nat → Prop) (w : World) (v : Value) (l : List Int) (h : BAt w v l) (hb : bok l) (hn : l.length ≤ 2000000) (hK : BK K v l) : Calls Tryz.prog 88 #[v] w fun e w' => FstK K l e w' ∧ Below w.heap.size w w' := by
  obtain ⟨A, cap, h1, h2, h3⟩ := h
  subst h1
  by_cases h8 : l.length < 8
  · exact first_short K w A l.length cap l ⟨A, cap, rfl, h2, h3⟩ h8
  · exact first_more K w A l.length cap l ⟨A, cap, rfl, h2, h3⟩ hb (by omega) hn hK
theorem first_any (w : World) (v : Value) (l : List Int) (h : BAt w v l) (hb : bok l) (hn : l.length ≤ 2000000) : Calls Tryz.prog 88 #[v] w fun e w' => Fst l e w' ∧ Below w.heap.size w w' :=
  (first_in (fun _ => True) w v l h hb hn (fun _ _ _ _ _ => trivial)).mono fun _ _ h => ⟨h.1.fst, h.2⟩
end Go.Proofs.YtklngdmpledgeaaGreat.Fr

namespace Go.Proofs.YtklngdmpledgeaaGreat.Fr
open Go.RowKit

/-- What Open tells. -/
def Opn (l : List Int) (e : Ending) (w' : World) : Prop := ∃ A c, e = .returned (.tuple #[.slice A (opB l).length c, .int .i64 (opE l)]) ∧ BAt w' (.slice A (opB l).length c) (opB l)
end Go.Proofs.YtklngdmpledgeaaGreat.Fr

namespace Go.Proofs.YtklngdmpledgeaaGreat.Fr
open Go.RowKit

theorem made_any (k : Nat) (hk : k ≤ 2000000) : ∃ M : Array Value, M.size = k * 1 ∧ ∀ W : World, (Instr.makeSlice 22 (.int .i64 0) (.int .i64 (k : Int))).run Tryz.prog W = .ok (.slice (some ⟨W.heap.size, 0, none⟩) 0 k) (W.alloc (.cells M 5)) := by
  obtain ⟨i0, hi0, hz0, hz1, hz2⟩ := info_parts u8Inf
  refine ⟨madeCells #[.int .u8 0] (k * 1), size_madeCells _ _, fun W => ?_⟩
  have h := run_make (P := Tryz.prog) W 22 5 i0 _ Tryz.underlying22 hi0 hz0 .i64 .i64 0 k (Int.le_refl _) (by omega) (by rw [hz2]; omega) (by omega)
  rw [hz1] at h
  exact h
theorem own_same {w w' : World} {base : Nat} {e : TypeId} {size n : Nat} {v : Value} {xs : List Value} (h : w.ownsRow base e size v n xs) (hb : Below w.heap.size w w') : w'.ownsRow base e size v n xs :=
  h.kept (row := none) ⟨hb.os, hb.tape, hb.output, hb.size, fun i hi _ => hb.block i hi⟩ (by
    rcases hv : v.ownBlock with _ | g
    · exact .inl rfl
    · exact .inr (by simp))
/-- What Make tells of bytes that may be framed. -/
def Mad (w : World) (l : List Int) (e : Ending) (w' : World) : Prop := ∃ A c, e = .returned (.tuple #[.slice A (l.length + 8) c, .int .i64 0]) ∧ w'.ownsRow w.heap.size 5 1 (.slice A (l.length + 8) c) (frF l).length (bv (frF l))
set_option maxRecDepth 100000 in
theorem make_long (w : World) (A : Option Addr) (n cap : Nat) (hn : 1048568 < n) :
    Calls Tryz.prog 56 #[.slice A n cap] w fun e w' => e = .returned (.tuple #[.slice none 0 0, .int .i64 2]) ∧ w = w' := by
  have t1 : (1048568 : Int) < (n : Int) := by omega
  go_enter Tryz.func56, Tryz.ntmps56
  go_wp2
  go_ret2
  exact ⟨rfl, rfl⟩
set_option maxRecDepth 100000 in
set_option maxHeartbeats 4000000 in
theorem make_any (w : World) (v : Value) (l : List Int) (h : BAt w v l) (hb : bok l) (hn : l.length ≤ 1048568) : Calls Tryz.prog 56 #[v] w fun e w' => Mad w l e w' ∧ Below w.heap.size w w' := by
  have H := Lib.hid h
  obtain ⟨A, cap, rfl, hcap, _⟩ := h
  obtain ⟨n, hnn⟩ : ∃ n, n = l.length := ⟨_, rfl⟩
  rw [← hnn] at H hn hcap ⊢
  obtain ⟨k, hk⟩ : ∃ k, k = n + 8 := ⟨_, rfl⟩
  obtain ⟨q, hq⟩ : ∃ q, q = n + 4 := ⟨_, rfl⟩
  obtain ⟨M, hM, hmk⟩ := made_any k (by omega)
  obtain ⟨c, hc⟩ : ∃ c, c = crc (hd l) := ⟨_, rfl⟩
  have hc2 : c < 4294967296 := by rw [hc]; exact crc_lt _
  have t1 : ¬ (1048568 : Int) < (n : Int) := by omega
  have e1 : (n : Int) + 8 = (k : Int) := by omega
  have e2 : IntKind.u32.wrap (n : Int) = (n : Int) := by rw [IntKind.wrap_u32]; omega
  have HL : Hid (n = l.length ∧ k = n + 8 ∧ q = n + 4 ∧ c = crc (hd l)) := ⟨hnn, hk, hq, hc⟩
  have HB := Lib.hid hb
  have HO0 : Hid ((w.alloc (.cells M 5)).ownsRow w.heap.size 5 1 (.slice (some ⟨w.heap.size, 0, none⟩) 0 k) 0 []) := World.ownsRow_made w M k (Nat.le_refl _) (by unfold maxLen; omega) hM
  have HP : Hid (Calls Tryz.prog 82 #[.slice (some ⟨w.heap.size, 0, none⟩) 0 k, .int .u32 (n : Int)] (w.alloc (.cells M 5)) fun e w' => ∃ A c, e = .returned (.slice A 4 c) ∧ w'.ownsRow w.heap.size 5 1 (.slice A 4 c) (num4 n).length (bv (num4 n)) ∧ Below w.heap.size w w') := by
    have h1 := put_own (w.alloc (.cells M 5)) w.heap.size _ [] n HO0.out (by simp) (by decide) (by omega)
    exact h1.mono fun e w' ⟨A, c, h2, h3, h4⟩ => ⟨A, c, h2, h3, ((Below.refl _ w).alloc (Nat.le_refl _) _).trans h4⟩
  have hk2 : k ≤ 1048576 := by omega
  have hq2 : q ≤ 1048572 := by omega
  clear hnn hk hq hc hb hM
  go_enter Tryz.func56, Tryz.ntmps56
  go_wp2_with (first
    | (go_at_call 82; (with_reducible refine (HP2.out).mono ?_); rintro e w5 ⟨A5, c5, rfl, ho5, hb5⟩
       have HO5 := Lib.hid ho5
       have HB5 := Lib.hid (HB3.out.trans hb5)
       clear ho5 hb5)
    | (go_at_call 83; (with_reducible refine (HS.out).mono ?_); rintro e w4 ⟨rfl, rfl⟩)
    | (at_builtin; refine Lib.wpList_append_run _ rfl _ _ 22 22 rfl _ _ rfl rfl _ _ HR.out ?_)
    | (go_at_call 82; refine HP.out.mono ?_; rintro e w2 ⟨A2, c2, rfl, ho2, hb2⟩
       have HB2 := Lib.hid hb2
       obtain ⟨A3, c3, w3, hr3, ho3, hg3⟩ := app_any w2 w.heap.size _ (num4 n) ho2 (.slice A n cap) l (H.out.kept HB2.out) (by rw [num4_len]; have := HL.out.1; omega) HB2.out.size
       have h3 : (num4 n).length + l.length = q := by rw [num4_len]; have := HL.out; omega
       rw [h3] at hr3 ho3
       have HR := Lib.hid hr3
       have HO3 : Hid (w3.ownsRow w.heap.size 5 1 (.slice A3 q c3) (hd l).length (bv (hd l))) := by unfold hd; rw [← HL.out.1]; exact ho3
       have HB3 : Hid (Below w.heap.size w w3) := HB2.out.grown hg3 HB2.out.size (fun j hj => (ho2.lt j hj).1)
       have HW3 : Hid (Below w3.heap.size w3 (w3.alloc (.cells #[.slice A3 q c3] 22))) := (Below.refl _ _).alloc (Nat.le_refl _) _
       have hbb : bok (hd l) := hd_bok HB.out
       have hln : (hd l).length ≤ 2000000 := by rw [hd_len, ← HL.out.1]; omega
       have HS : Hid (Calls Tryz.prog 83 #[.slice (some ⟨w3.heap.size, 0, none⟩) 1 1] (w3.alloc (.cells #[.slice A3 q c3] 22)) fun e w' => e = .returned (.int .u32 (c : Int)) ∧ (w3.alloc (.cells #[.slice A3 q c3] 22)) = w') := by
         have h4 := sum_any _ _ _ (PAt.one (BAt.of_own HO3.out)) (boks_one hbb hln)
         rw [List.flatten_cons, List.flatten_nil, List.append_nil, ← HL.out.2.2.2] at h4
         exact h4
       have HP2 : Hid (Calls Tryz.prog 82 #[.slice A3 q c3, .int .u32 (c : Int)] (w3.alloc (.cells #[.slice A3 q c3] 22)) fun e w' => ∃ A c, e = .returned (.slice A k c) ∧ w'.ownsRow w.heap.size 5 1 (.slice A k c) (frF l).length (bv (frF l)) ∧ Below w.heap.size w3 w') := by
         have h4 := put_own (w3.alloc (.cells #[.slice A3 q c3] 22)) w.heap.size _ (hd l) c (own_same HO3.out HW3.out) (Nat.le_trans HB3.out.size HW3.out.size) hln hc2
         rw [show (hd l).length + 4 = k by rw [hd_len]; have := HL.out; omega] at h4
         rw [HL.out.2.2.2] at h4 ⊢
         exact h4.mono fun e w' ⟨A, c, h5, h6, h7⟩ => ⟨A, c, h5, h6, (HW3.out.mono HB3.out.size).trans h7⟩
       clear ho2 hb2 hr3 ho3 hg3 hbb hln h3))
  go_ret2
  have hkl : l.length + 8 = k := by have := HL.out; omega
  refine ⟨⟨A5, c5, ?_, ?_⟩, HB5.out⟩
  · rw [hkl]; rfl
  · rw [hkl]; exact HO5.out

theorem bits_xor8 (a b : Int) (ha : 0 ≤ a ∧ a < 256) (hb : 0 ≤ b ∧ b < 256) : bits .xor .u8 a b = xb a b := by
  show IntKind.u8.wrap ((BitVec.ofInt 8 a ^^^ BitVec.ofInt 8 b).toNat : Int) = _
  have h1 := xb_bok ha hb
  have e1 : (BitVec.ofInt 8 a).toNat = a.toNat := by rw [BitVec.toNat_ofInt]; omega
  have e2 : (BitVec.ofInt 8 b).toNat = b.toNat := by rw [BitVec.toNat_ofInt]; omega
  rw [BitVec.toNat_xor, e1, e2, IntKind.wrap_u8]
  show xb a b % 256 = xb a b
  omega
/-- A cell of a row of the call's own is turned. -/
theorem own_set {w : World} {base g n cap : Nat} {l : List Int} (h : w.ownsRow base 5 1 (.slice (some ⟨g, 0, none⟩) n cap) l.length (bv l)) (i : Nat) (_hi : i < l.length) (x : Int) :
    (w.setCell ⟨g, i, none⟩ (.int .u8 x)).ownsRow base 5 1 (.slice (some ⟨g, 0, none⟩) n cap) l.length (bv (l.set i x)) := by
  rcases h.2 with ⟨h1, _⟩ | ⟨g2, cap2, cur, h1, hb, hg, hnc, hcm, hcs, htake⟩
  · cases h1
  · cases h1
    refine ⟨by rw [bv_len, List.length_set, Nat.mul_one], .inr ⟨g, cap, cur.setIfInBounds i (.int .u8 x), rfl, hb, ?_, hnc, hcm, by simpa using hcs, ?_⟩⟩
    · simp only [World.setCell, Array.getElem?_modify, if_true]; rw [hg]; rfl
    · rw [Array.toList_setIfInBounds, List.take_set, htake]
      simp [bv]
/-- What Bend tells. -/
def Bnd (w : World) (l : List Int) (a b : Int) (e : Ending) (w' : World) : Prop := ∃ A c, e = .returned (.slice A l.length c) ∧ w'.ownsRow w.heap.size 5 1 (.slice A l.length c) (bend l a b).length (bv (bend l a b))
end Go.Proofs.YtklngdmpledgeaaGreat.Fr

namespace Go.Proofs.YtklngdmpledgeaaGreat.Fr
open Go.RowKit

/-- A slice of slices of bytes. -/
def RIn (w : World) (A : Option Addr) (n c : Nat) : Prop := ∃ ls : List (List Int), PAt w (.slice A n c) ls ∧ ∀ l ∈ ls, bok l
theorem PAt.two {w : World} {u u' : Value} {l l' : List Int} (h : BAt w u l) (h' : BAt w u' l') : PAt (w.alloc (.cells #[u, u'] 22)) (.slice (some ⟨w.heap.size, 0, none⟩) 2 2) [l, l'] := by
  refine ⟨_, 2, rfl, Nat.le_refl _, fun _ => ⟨w.heap.size, 0, rfl, by simp, fun i hi => ?_⟩⟩
  have hb := block_new w (.cells #[u, u'] 22)
  have hk : Below w.heap.size w (w.alloc (.cells #[u, u'] 22)) := (Below.refl _ w).alloc (Nat.le_refl _) _
  have h2 : i = 0 ∨ i = 1 := by simp at hi; omega
  rcases h2 with rfl | rfl
  · exact ⟨u, by simp only [World.cell?, Nat.zero_add]; rw [hb]; rfl, h.kept hk⟩
  · exact ⟨u', by simp only [World.cell?, Nat.zero_add]; rw [hb]; rfl, h'.kept hk⟩
theorem crc_0 : crc [0, 0, 0, 0] = 558161692 := by decide +kernel
theorem crc_19 : crc [49, 50, 51, 52, 53, 54, 55, 56, 57] = 3421780262 := by decide +kernel
theorem fr_nil : frF [] = [0, 0, 0, 0, 33, 68, 223, 28] := by
  have h1 : hd [] = [0, 0, 0, 0] := by decide
  unfold frF
  rw [h1, crc_0]
  decide
theorem digits_bok : bok [49, 50, 51, 52] ∧ bok [53, 54, 55, 56, 57] := ⟨fun x hx => by simp at hx; omega, fun x hx => by simp at hx; omega⟩
theorem ksum (w1 : World) : Calls Tryz.prog 83 #[.slice (some ⟨w1.heap.size + 1 + 1, 0, none⟩) 2 2] (((w1.alloc (.cells #[.int .u8 49, .int .u8 50, .int .u8 51, .int .u8 52] 5 (4, 5))).alloc (.cells #[.int .u8 53, .int .u8 54, .int .u8 55, .int .u8 56, .int .u8 57] 5 (5, 6))).alloc (.cells #[.slice (some ⟨w1.heap.size, 0, none⟩) 4 4, .slice (some ⟨w1.heap.size + 1, 0, none⟩) 5 5] 22)) fun e w' =>
    e = .returned (.int .u32 3421780262) ∧ (((w1.alloc (.cells #[.int .u8 49, .int .u8 50, .int .u8 51, .int .u8 52] 5 (4, 5))).alloc (.cells #[.int .u8 53, .int .u8 54, .int .u8 55, .int .u8 56, .int .u8 57] 5 (5, 6))).alloc (.cells #[.slice (some ⟨w1.heap.size, 0, none⟩) 4 4, .slice (some ⟨w1.heap.size + 1, 0, none⟩) 5 5] 22)) = w' := by
  have h1 := (lit_at w1 [49, 50, 51, 52] (4, 5)).kept ((Below.refl _ _).alloc (Nat.le_refl _) (.cells #[.int .u8 53, .int .u8 54, .int .u8 55, .int .u8 56, .int .u8 57] 5 (5, 6)))
  have h2 := lit_at (w1.alloc (.cells #[.int .u8 49, .int .u8 50, .int .u8 51, .int .u8 52] 5 (4, 5))) [53, 54, 55, 56, 57] (5, 6)
  have h3 := sum_any _ _ _ (PAt.two h1 h2) ⟨by simp, fun l hl => by
    simp only [List.mem_cons, List.not_mem_nil, or_false] at hl
    rcases hl with rfl | rfl
    · exact ⟨digits_bok.1, by decide⟩
    · exact ⟨digits_bok.2, by decide⟩⟩
  have h4 : crc [[49, 50, 51, 52], [53, 54, 55, 56, 57]].flatten = 3421780262 := crc_19
  rw [h4] at h3
  simpa [bv] using h3
theorem kbytes (w1 : World) : BAt ((((w1.alloc (.cells #[.int .u8 49, .int .u8 50, .int .u8 51, .int .u8 52] 5 (4, 5))).alloc (.cells #[.int .u8 53, .int .u8 54, .int .u8 55, .int .u8 56, .int .u8 57] 5 (5, 6))).alloc (.cells #[.slice (some ⟨w1.heap.size, 0, none⟩) 4 4, .slice (some ⟨w1.heap.size + 1, 0, none⟩) 5 5] 22)).alloc (.cells #[.int .u8 0, .int .u8 0, .int .u8 0, .int .u8 0, .int .u8 33, .int .u8 68, .int .u8 223, .int .u8 28] 5)) (.slice (some ⟨w1.heap.size + 1 + 1 + 1, 0, none⟩) 8 8) [0, 0, 0, 0, 33, 68, 223, 28] := by
  have h := lit_at (((w1.alloc (.cells #[.int .u8 49, .int .u8 50, .int .u8 51, .int .u8 52] 5 (4, 5))).alloc (.cells #[.int .u8 53, .int .u8 54, .int .u8 55, .int .u8 56, .int .u8 57] 5 (5, 6))).alloc (.cells #[.slice (some ⟨w1.heap.size, 0, none⟩) 4 4, .slice (some ⟨w1.heap.size + 1, 0, none⟩) 5 5] 22)) [0, 0, 0, 0, 33, 68, 223, 28] (0, 0)
  simpa [bv] using h
end Go.Proofs.YtklngdmpledgeaaGreat.Fr
