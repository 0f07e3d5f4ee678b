/-
  The contracts of the reference's Groups, Zigzag and Word. Conditions: the types' own ranges.
-/
import Derived.Test.YtmicmldhjmadcaaOKnown
namespace Go.Proofs.Ytmicmldhjmadcaa.Oc
open Go.RowKit

theorem own_one (w : World) (x : Int) : (w.alloc (.cells #[.int .u8 x] 5)).ownsRow w.heap.size 5 1 (.slice (some ⟨w.heap.size, 0, none⟩) 1 1) 1 [.int .u8 x] :=
  ⟨rfl, .inr ⟨w.heap.size, 1, #[.int .u8 x], rfl, Nat.le_refl _, heap_alloc_new w _, Nat.le_refl _, by unfold maxLen; omega, rfl, rfl⟩⟩
set_option maxRecDepth 100000 in
theorem fgroups_lv (k : Nat) : ∀ (m : Nat) (w : World), m < 2 * 128 ^ k → k ≤ 9 → Calls Try.prog 27 #[.int .u64 (m : Int)] w fun e w' => ∃ v, e = .returned v ∧ w'.ownsRow w.heap.size 5 1 v (grpF k m).length (bv (grpF k m)) ∧ Below w.heap.size w w' := by
  obtain ⟨i0, hi0, hz0, hz1, hz2⟩ := info_parts u8Inf
  induction k with
  | zero =>
    intro m w hm _
    have hm2 : m < 2 := by simpa using hm
    have t1 : (m : Int) < 128 := by omega
    have HO := Lib.hid (own_one w (m : Int))
    have HB : Hid (Below w.heap.size w (w.alloc (.cells #[.int .u8 (m : Int)] 5))) := (Below.refl _ _).alloc (Nat.le_refl _) _
    clear hm
    go_enter Try.func27, Try.ntmps27
    go_wp2
    go_ret
    exact ⟨_, rfl, HO.out, HB.out⟩
  | succ k ih =>
    intro m w hm hk9
    by_cases h : m < 128
    · rw [grpF_one h]
      have t1 : (m : Int) < 128 := by omega
      have HO := Lib.hid (own_one w (m : Int))
      have HB : Hid (Below w.heap.size w (w.alloc (.cells #[.int .u8 (m : Int)] 5))) := (Below.refl _ _).alloc (Nat.le_refl _) _
      clear hm ih
      go_enter Try.func27, Try.ntmps27
      go_wp2
      go_ret
      exact ⟨_, rfl, HO.out, HB.out⟩
    · have hle : (128 : Nat) ^ (k + 1) ≤ 128 ^ 9 := Nat.pow_le_pow_right (by decide) hk9
      have e9 : (128 : Nat) ^ 9 = 9223372036854775808 := by decide
      have t1 : ¬ (m : Int) < 128 := by omega
      have t2 : (m : Int) < 18446744073709551616 := by omega
      obtain ⟨c, hc⟩ : ∃ c, c = m % 128 := ⟨_, rfl⟩
      obtain ⟨q, hq⟩ : ∃ q, q = m / 128 := ⟨_, rfl⟩
      have e1 : (m : Int) % 128 = (c : Int) := by omega
      have e2 : (m : Int) / 128 = (q : Int) := by omega
      have HC := Lib.hid (ih q (w.alloc (.cells #[.int .u8 ((c : Int) + 128)] 5)) (by rw [Nat.pow_succ] at hm; omega) (by omega))
      have HG : Hid (grpF (k + 1) m = ((c : Int) + 128) :: grpF k q) := by show _ = _; rw [grpF_more h, hc, hq]
      have HO := Lib.hid (own_one w ((c : Int) + 128))
      have HB : Hid (Below w.heap.size w (w.alloc (.cells #[.int .u8 ((c : Int) + 128)] 5))) := (Below.refl _ _).alloc (Nat.le_refl _) _
      have hlen := grpF_len k q
      have c1 : c < 128 := by omega
      obtain ⟨L, hL⟩ : ∃ L, L = grpF k q := ⟨_, rfl⟩
      rw [HG.out]
      rw [← hL] at HC hlen ⊢
      clear hm ih hc hq hle e9 h HG hL
      go_enter Try.func27, Try.ntmps27
      go_wp2_with (first
        | (at_builtin; refine wpList_append_own _ rfl _ _ 27 rfl w.heap.size 5 i0 (.int .u8 0) 1 1 Try.underlying27 hi0 hz0 hz1 hz2 rfl (by decide) _ _ _ rfl HO1.out ⟨g, 0, none⟩ L.length cp (bv L) rfl (by rw [bv_len]; omega) HL1.out (bv_one _) (by unfold maxLen; omega) (by omega) (by have := B1.out.size; omega) ?_; intro v' w2 hown hgrow hnil)
        | (go_at_call 27; refine HC.out.mono ?_; rintro e w1 ⟨v, rfl, ho1, hb1⟩
           obtain ⟨g, cp, rfl, hbg, _⟩ := ho1.form (by omega)
           have HL1 := Lib.hid (ho1.cells (g := g) rfl)
           have HO1 := Lib.hid (ownsRow_kept HO.out (fun g2 hg2 => hb1.block g2 (HO.out.lt g2 hg2).2))
           have B1 := Lib.hid (HB.out.trans (hb1.mono HB.out.size))
           clear ho1 hb1))
      go_ret
      refine ⟨v', rfl, ?_, B1.out.grown hgrow B1.out.size (fun j hj => (HO1.out.lt j hj).1)⟩
      rw [Nat.add_comm]
      exact hown
theorem fgroups_any (w : World) (m : Nat) (h : m < 18446744073709551616) : Calls Try.prog 27 #[.int .u64 (m : Int)] w fun e w' => ∃ v, e = .returned v ∧ w'.ownsRow w.heap.size 5 1 v (grp m).length (bv (grp m)) ∧ Below w.heap.size w w' :=
  fgroups_lv 9 m w (by rw [pow9]; exact h) (Nat.le_refl _)
set_option maxRecDepth 100000 in
theorem zigzag_any (w : World) (x : Int) (h1 : -9223372036854775808 ≤ x) (h2 : x < 9223372036854775808) :
    Calls Try.prog 28 #[.int .i64 x] w fun e w' => e = .returned (.int .u64 (fold x : Int)) ∧ w = w' := by
  have hf : (fold x : Int) = if x < 0 then 2 * (-x - 1) + 1 else 2 * x := by unfold fold; split <;> omega
  by_cases hx : x < 0
  · rw [if_pos hx] at hf
    obtain ⟨y, hy⟩ : ∃ y : Nat, (y : Int) = -x - 1 := ⟨(-x - 1).toNat, by omega⟩
    have e1 : -(x + 1) = (y : Int) := by omega
    have e3 : (fold x : Int) = 2 * (y : Int) + 1 := by omega
    have t2 : (y : Int) < 9223372036854775808 := by omega
    have t3 : x + 1 ≤ 0 := by omega
    rw [e3]
    clear hf hy e3
    go_enter Try.func28, Try.ntmps28
    go_wp2
    go_ret
    exact ⟨rfl, rfl⟩
  · rw [if_neg hx] at hf
    rw [hf]
    clear hf
    go_enter Try.func28, Try.ntmps28
    go_wp2
    go_ret
    exact ⟨rfl, rfl⟩

/-! ### Word -/
theorem made8 : ∀ W : World, (Instr.makeSlice 27 (.int .i64 8) (.int .i64 8)).run Try.prog W = .ok (.slice (some ⟨W.heap.size, 0, none⟩) 8 8) (W.alloc (.cells #[.int .u8 0, .int .u8 0, .int .u8 0, .int .u8 0, .int .u8 0, .int .u8 0, .int .u8 0, .int .u8 0] 5)) := fun _ => by kernel_rfl
/-- Behind 8 - k bytes from the end. -/
def wordC (k lo : Nat) : List Int := List.replicate k 0 ++ wordF8 k lo
where wordF8 (k lo : Nat) : List Int := (wordF 8 lo).drop k
theorem wordF_get (n k lo : Nat) (h : k < n) : (wordF n lo)[k]? = some ((lo / 256 ^ (n - 1 - k) % 256 : Nat) : Int) := by
  induction n generalizing k with
  | zero => omega
  | succ n ih =>
    rw [wordF]
    cases k with
    | zero => rfl
    | succ k =>
      rw [List.getElem?_cons_succ, ih k (by omega)]
      rw [show n + 1 - 1 - (k + 1) = n - 1 - k by omega]
theorem wordC_len (k lo : Nat) (h : k ≤ 8) : (wordC k lo).length = 8 := by
  unfold wordC wordC.wordF8
  simp [wordF_len]
  omega
theorem wordC_step (k lo : Nat) (h : k < 8) : (wordC (k + 1) lo).set k ((lo / 256 ^ (7 - k) % 256 : Nat) : Int) = wordC k lo := by
  have hg := wordF_get 8 k lo h
  have hlt : k < (wordF 8 lo).length := by rw [wordF_len]; exact h
  have hd : (wordF 8 lo).drop k = ((lo / 256 ^ (7 - k) % 256 : Nat) : Int) :: (wordF 8 lo).drop (k + 1) := by
    rw [List.drop_eq_getElem_cons hlt]
    rw [List.getElem?_eq_getElem hlt] at hg
    rw [Option.some.inj hg]
  unfold wordC wordC.wordF8
  rw [hd, List.replicate_succ', List.append_assoc, List.set_append_right _ _ (by simp)]
  simp
theorem wordC_end (lo : Nat) : wordC 0 lo = wordF 8 lo := rfl
theorem wordC_start (lo : Nat) : wordC 8 lo = [0, 0, 0, 0, 0, 0, 0, 0] := by
  unfold wordC wordC.wordF8
  rw [List.drop_of_length_le (by rw [wordF_len]; exact Nat.le_refl _)]
  rfl
theorem own_eight (w : World) (g : Nat) (l : List Int) (hl : l.length = 8) (base : Nat) (hb : base ≤ g) (h : w.heap[g]? = some (.cells (bv l).toArray 5 (0, 0))) : w.ownsRow base 5 1 (.slice (some ⟨g, 0, none⟩) 8 8) l.length (bv l) := by
  rw [hl]
  refine ⟨by rw [bv_len, hl], .inr ⟨g, 8, _, rfl, hb, h, Nat.le_refl _, by unfold maxLen; omega, by simp [bv_len, hl], ?_⟩⟩
  rw [show 8 * 1 = (bv l).length by rw [bv_len, hl]]
  simp
set_option maxRecDepth 100000 in
set_option maxHeartbeats 1000000 in
theorem fword_any (w : World) (lo : Nat) (h : lo < 18446744073709551616) : Calls Try.prog 29 #[.int .u64 (lo : Int)] w fun e w' => ∃ v, e = .returned v ∧ w'.ownsRow w.heap.size 5 1 v (wordF 8 lo).length (bv (wordF 8 lo)) ∧ Below w.heap.size w w' := by
  have hmk := made8
  have HI : Hid ((w.alloc (.cells #[.int .u8 0, .int .u8 0, .int .u8 0, .int .u8 0, .int .u8 0, .int .u8 0, .int .u8 0, .int .u8 0] 5)).heap[w.heap.size]? = some (.cells (bv (wordC 8 lo)).toArray 5 (0, 0)) ∧ Below w.heap.size w (w.alloc (.cells #[.int .u8 0, .int .u8 0, .int .u8 0, .int .u8 0, .int .u8 0, .int .u8 0, .int .u8 0, .int .u8 0] 5))) :=
    ⟨by rw [wordC_start]; exact block_new _ _, (Below.refl _ _).alloc (Nat.le_refl _) _⟩
  have HLO := Lib.hid h
  clear h
  go_enter Try.func29, Try.ntmps29
  go_wp2
  go_loopg [0, 4] 8 (fun k s0 s4 wx => ∃ (j : Int) (q : Nat), j = (k : Int) - 1 ∧ k ≤ 8 ∧ s4 = .int .i64 j ∧ s0 = .int .u64 (q : Int) ∧ Hid (q = lo / 256 ^ (8 - k)) ∧ Hid (wx.heap[w.heap.size]? = some (.cells (bv (wordC k lo)).toArray 5 (0, 0)) ∧ Below w.heap.size w wx))
  case atStart => exact ⟨7, lo, rfl, Nat.le_refl _, rfl, rfl, by show _ = _; simp, HI⟩
  case round =>
    clear HI
    obtain ⟨j, q, hj, hk, rfl, rfl, hq, hinv⟩ := hrel
    obtain ⟨hblk, hbel⟩ := hinv.out
    cases gk with
    | zero =>
      have t1 : ¬ 0 ≤ j := by omega
      have HO := Lib.hid (own_eight wr w.heap.size (wordC 0 lo) (wordC_len 0 lo (by omega)) w.heap.size (Nat.le_refl _) hblk)
      have HB := Lib.hid hbel
      clear hj hq hinv hblk hbel
      go_wp2
      go_ret
      exact ⟨_, rfl, HO.out, HB.out⟩
    | succ k =>
      have t1 : 0 ≤ j := by omega
      have t2 : j < 8 := by omega
      have hq64 : q < 18446744073709551616 := by
        rw [hq.out]
        exact Nat.lt_of_le_of_lt (Nat.div_le_self _ _) HLO.out
      have t3 : (q : Int) < 18446744073709551616 := by omega
      have hjt : j.toNat = k := by omega
      have hc1 : wr.frozen? ⟨w.heap.size, k, none⟩ = false := by simp [World.frozen?, hblk]
      have hc2 : ∃ x, wr.cell? ⟨w.heap.size, k, none⟩ = some x := by
        have hlt : k < (bv (wordC (k + 1) lo)).length := by rw [bv_len, wordC_len _ _ hk]; omega
        exact ⟨(bv (wordC (k + 1) lo))[k], by simp [World.cell?, hblk]⟩
      obtain ⟨x, hx⟩ := hc2
      obtain ⟨c, hc⟩ : ∃ c, c = q % 256 := ⟨_, rfl⟩
      obtain ⟨q2, hq2⟩ : ∃ q2, q2 = q / 256 := ⟨_, rfl⟩
      have e1 : (q : Int) % 256 = (c : Int) := by omega
      have e2 : (q : Int) / 256 = (q2 : Int) := by omega
      have FIN : Hid ((wr.setCell ⟨w.heap.size, k, none⟩ (.int .u8 (c : Int))).heap[w.heap.size]? = some (.cells (bv (wordC k lo)).toArray 5 (0, 0)) ∧ Below w.heap.size w (wr.setCell ⟨w.heap.size, k, none⟩ (.int .u8 (c : Int)))) := by
        refine ⟨?_, hbel.setCell (p := ⟨w.heap.size, k, none⟩) (Nat.le_refl _) _⟩
        have h1 := heap_setCell_same wr w.heap.size k (bv (wordC (k + 1) lo)).toArray 5 (.int .u8 (c : Int)) hblk
        rw [h1, ← wordC_step k lo (by omega), hc, hq.out, show 8 - (k + 1) = 7 - k by omega]
        simp [bv, List.map_set]
      have HQ2 : Hid (q2 = lo / 256 ^ (8 - k)) := by
        show _ = _
        rw [hq2, hq.out, Nat.div_div_eq_div_mul, ← Nat.pow_succ, show (8 - (k + 1)).succ = 8 - k by omega]
      have HJ := Lib.hid hj
      have HKK := Lib.hid hk
      clear hj hq hinv hblk hbel hc hq2 hq64 hk
      go_wp2
      go_roundg k
      case measure => omega
      case rel => exact ⟨j - 1, q2, by have := HJ.out; omega, by have := HKK.out; omega, by go_num, rfl, HQ2, FIN⟩
end Go.Proofs.Ytmicmldhjmadcaa.Oc
