/-
  The contracts of the reference's Groups, Zigzag and Word. Conditions: the types' own ranges.
-/
import Derived.Test.YteahloddjekakaaDoorNM13
import Derived.Test.YteahloddjekakaaDoorNM11
import Derived.Test.YteahloddjekakaaDoorNM7
import Derived.Laws.AppendOwn
namespace Go.Proofs.YteahloddjekakaaDoor.Oc
open Go.RowKit

theorem own_one (w : World) (x : Int) : (w.alloc (.cells #[.int .u8 x] 5)).ownsRow w.heap.size 5 1 (.slice (some ⟨w.heap.size, 0, none⟩) 1 1) 1 [.int .u8 x] :=
  ⟨rfl, .inr ⟨w.heap.size, 1, #[.int .u8 x], rfl, Nat.le_refl _, heap_alloc_new w _, Nat.le_refl _, by unfold maxLen; omega, rfl, rfl⟩⟩
set_option maxRecDepth 100000 in
theorem fgroups_lv (k : Nat) : ∀ (m : Nat) (w : World), m < 2 * 128 ^ k → k ≤ 9 → Calls Tryd.prog 49 #[.int .u64 (m : Int)] w fun e w' => ∃ v, e = .returned v ∧ w'.ownsRow w.heap.size 5 1 v (grpF k m).length (bv (grpF k m)) ∧ Below w.heap.size w w' := by
  obtain ⟨i0, hi0, hz0, hz1, hz2⟩ := info_parts u8Inf
  induction k with
  | zero =>
    intro m w hm _
    have hm2 : m < 2 := by simpa using hm
    have t1 : (m : Int) < 128 := by omega
    have HO := Lib.hid (own_one w (m : Int))
    have HB : Hid (Below w.heap.size w (w.alloc (.cells #[.int .u8 (m : Int)] 5))) := (Below.refl _ _).alloc (Nat.le_refl _) _
    clear hm
    go_enter Tryd.func49, Tryd.ntmps49
    go_wp2
    go_ret
    exact ⟨_, rfl, HO.out, HB.out⟩
  | succ k ih =>
    intro m w hm hk9
    by_cases h : m < 128
    · rw [grpF_one h]
      have t1 : (m : Int) < 128 := by omega
      have HO := Lib.hid (own_one w (m : Int))
      have HB : Hid (Below w.heap.size w (w.alloc (.cells #[.int .u8 (m : Int)] 5))) := (Below.refl _ _).alloc (Nat.le_refl _) _
      clear hm ih
      go_enter Tryd.func49, Tryd.ntmps49
      go_wp2
      go_ret
      exact ⟨_, rfl, HO.out, HB.out⟩
    · have hle : (128 : Nat) ^ (k + 1) ≤ 128 ^ 9 := Nat.pow_le_pow_right (by decide) hk9
      have e9 : (128 : Nat) ^ 9 = 9223372036854775808 := by decide
      have t1 : ¬ (m : Int) < 128 := by omega
      have t2 : (m : Int) < 18446744073709551616 := by omega
      obtain ⟨c, hc⟩ : ∃ c, c = m % 128 := ⟨_, rfl⟩
      obtain ⟨q, hq⟩ : ∃ q, q = m / 128 := ⟨_, rfl⟩
      have e1 : (m : Int) % 128 = (c : Int) := by omega
      have e2 : (m : Int) / 128 = (q : Int) := by omega
      have HC := Lib.hid (ih q (w.alloc (.cells #[.int .u8 ((c : Int) + 128)] 5)) (by rw [Nat.pow_succ] at hm; omega) (by omega))
      have HG : Hid (grpF (k + 1) m = ((c : Int) + 128) :: grpF k q) := by show _ = _; rw [grpF_more h, hc, hq]
      have HO := Lib.hid (own_one w ((c : Int) + 128))
      have HB : Hid (Below w.heap.size w (w.alloc (.cells #[.int .u8 ((c : Int) + 128)] 5))) := (Below.refl _ _).alloc (Nat.le_refl _) _
      have hlen := grpF_len k q
      have c1 : c < 128 := by omega
      obtain ⟨L, hL⟩ : ∃ L, L = grpF k q := ⟨_, rfl⟩
      rw [HG.out]
      rw [← hL] at HC hlen ⊢
      clear hm ih hc hq hle e9 h HG hL
      go_enter Tryd.func49, Tryd.ntmps49
      go_wp2_with (first
        | (at_builtin; refine wpList_append_own _ rfl _ _ 45 rfl w.heap.size 5 i0 (.int .u8 0) 1 1 Tryd.underlying45 hi0 hz0 hz1 hz2 rfl (by decide) _ _ _ rfl HO1.out ⟨g, 0, none⟩ L.length cp (bv L) rfl (by rw [bv_len]; omega) HL1.out (bv_one _) (by unfold maxLen; omega) (by omega) (by have := B1.out.size; omega) ?_; intro v' w2 hown hgrow hnil)
        | (go_at_call 49; refine HC.out.mono ?_; rintro e w1 ⟨v, rfl, ho1, hb1⟩
           obtain ⟨g, cp, rfl, hbg, _⟩ := ho1.form (by omega)
           have HL1 := Lib.hid (ho1.cells (g := g) rfl)
           have HO1 := Lib.hid (ownsRow_kept HO.out (fun g2 hg2 => hb1.block g2 (HO.out.lt g2 hg2).2))
           have B1 := Lib.hid (HB.out.trans (hb1.mono HB.out.size))
           clear ho1 hb1))
      go_ret
      refine ⟨v', rfl, ?_, B1.out.grown hgrow B1.out.size (fun j hj => (HO1.out.lt j hj).1)⟩
      rw [Nat.add_comm]
      exact hown
theorem fgroups_any (w : World) (m : Nat) (h : m < 18446744073709551616) : Calls Tryd.prog 49 #[.int .u64 (m : Int)] w fun e w' => ∃ v, e = .returned v ∧ w'.ownsRow w.heap.size 5 1 v (grp m).length (bv (grp m)) ∧ Below w.heap.size w w' :=
  fgroups_lv 9 m w (by rw [pow9]; exact h) (Nat.le_refl _)
set_option maxRecDepth 100000 in
theorem zigzag_any (w : World) (x : Int) (h1 : -9223372036854775808 ≤ x) (h2 : x < 9223372036854775808) :
    Calls Tryd.prog 82 #[.int .i64 x] w fun e w' => e = .returned (.int .u64 (fold x : Int)) ∧ w = w' := by
  have hf : (fold x : Int) = if x < 0 then 2 * (-x - 1) + 1 else 2 * x := by unfold fold; split <;> omega
  by_cases hx : x < 0
  · rw [if_pos hx] at hf
    obtain ⟨y, hy⟩ : ∃ y : Nat, (y : Int) = -x - 1 := ⟨(-x - 1).toNat, by omega⟩
    have e1 : -(x + 1) = (y : Int) := by omega
    have e3 : (fold x : Int) = 2 * (y : Int) + 1 := by omega
    have t2 : (y : Int) < 9223372036854775808 := by omega
    have t3 : x + 1 ≤ 0 := by omega
    rw [e3]
    clear hf hy e3
    go_enter Tryd.func82, Tryd.ntmps82
    go_wp2
    go_ret
    exact ⟨rfl, rfl⟩
  · rw [if_neg hx] at hf
    rw [hf]
    clear hf
    go_enter Tryd.func82, Tryd.ntmps82
    go_wp2
    go_ret
    exact ⟨rfl, rfl⟩

/-! ### Word -/
theorem made8 : ∀ W : World, (Instr.makeSlice 45 (.int .i64 8) (.int .i64 8)).run Tryd.prog W = .ok (.slice (some ⟨W.heap.size, 0, none⟩) 8 8) (W.alloc (.cells #[.int .u8 0, .int .u8 0, .int .u8 0, .int .u8 0, .int .u8 0, .int .u8 0, .int .u8 0, .int .u8 0] 5)) := fun _ => by kernel_rfl
/-- Behind 8 - k bytes from the end. -/
def wordC (k lo : Nat) : List Int := List.replicate k 0 ++ wordF8 k lo
where wordF8 (k lo : Nat) : List Int := (wordF 8 lo).drop k
theorem wordF_get (n k lo : Nat) (h : k < n) : (wordF n lo)[k]? = some ((lo / 256 ^ (n - 1 - k) % 256 : Nat) : Int) := by
  induction n generalizing k with
  | zero => omega
  | succ n ih =>
    rw [wordF]
    cases k with
    | zero => rfl
    | succ k =>
      rw [List.getElem?_cons_succ, ih k (by omega)]
      rw [show n + 1 - 1 - (k + 1) = n - 1 - k by omega]
theorem wordC_len (k lo : Nat) (h : k ≤ 8) : (wordC k lo).length = 8 := by
  unfold wordC wordC.wordF8
  simp [wordF_len]
  omega
theorem wordC_step (k lo : Nat) (h : k < 8) : (wordC (k + 1) lo).set k ((lo / 256 ^ (7 - k) % 256 : Nat) : Int) = wordC k lo := by
  have hg := wordF_get 8 k lo h
  have hlt : k < (wordF 8 lo).length := by rw [wordF_len]; exact h
  have hd : (wordF 8 lo).drop k = ((lo / 256 ^ (7 - k) % 256 : Nat) : Int) :: (wordF 8 lo).drop (k + 1) := by
    rw [List.drop_eq_getElem_cons hlt]
    rw [List.getElem?_eq_getElem hlt] at hg
    rw [Option.some.inj hg]
  unfold wordC wordC.wordF8
  rw [hd, List.replicate_succ', List.append_assoc, List.set_append_right _ _ (by simp)]
  simp
theorem wordC_end (lo : Nat) : wordC 0 lo = wordF 8 lo := rfl
theorem wordC_start (lo : Nat) : wordC 8 lo = [0, 0, 0, 0, 0, 0, 0, 0] := by
  unfold wordC wordC.wordF8
  rw [List.drop_of_length_le (by rw [wordF_len]; exact Nat.le_refl _)]
  rfl
theorem own_eight (w : World) (g : Nat) (l : List Int) (hl : l.length = 8) (base : Nat) (hb : base ≤ g) (h : w.heap[g]? = some (.cells (bv l).toArray 5 (0, 0))) : w.ownsRow base 5 1 (.slice (some ⟨g, 0, none⟩) 8 8) l.length (bv l) := by
  rw [hl]
  refine ⟨by rw [bv_len, hl], .inr ⟨g, 8, _, rfl, hb, h, Nat.le_refl _, by unfold maxLen; omega, by simp [bv_len, hl], ?_⟩⟩
  rw [show 8 * 1 = (bv l).length by rw [bv_len, hl]]
  simp
set_option maxRecDepth 100000 in
set_option maxHeartbeats 1000000 in
theorem fword_any (w : World) (lo : Nat) (h : lo < 18446744073709551616) : Calls Tryd.prog 53 #[.int .u64 (lo : Int)] w fun e w' => ∃ v, e = .returned v ∧ w'.ownsRow w.heap.size 5 1 v (wordF 8 lo).length (bv (wordF 8 lo)) ∧ Below w.heap.size w w' := by
  have hmk := made8
  have HI : Hid ((w.alloc (.cells #[.int .u8 0, .int .u8 0, .int .u8 0, .int .u8 0, .int .u8 0, .int .u8 0, .int .u8 0, .int .u8 0] 5)).heap[w.heap.size]? = some (.cells (bv (wordC 8 lo)).toArray 5 (0, 0)) ∧ Below w.heap.size w (w.alloc (.cells #[.int .u8 0, .int .u8 0, .int .u8 0, .int .u8 0, .int .u8 0, .int .u8 0, .int .u8 0, .int .u8 0] 5))) :=
    ⟨by rw [wordC_start]; exact block_new _ _, (Below.refl _ _).alloc (Nat.le_refl _) _⟩
  have HLO := Lib.hid h
  clear h
  go_enter Tryd.func53, Tryd.ntmps53
  go_wp2
  go_loopg [0, 4] 8 (fun k s0 s4 wx => ∃ (j : Int) (q : Nat), j = (k : Int) - 1 ∧ k ≤ 8 ∧ s4 = .int .i64 j ∧ s0 = .int .u64 (q : Int) ∧ Hid (q = lo / 256 ^ (8 - k)) ∧ Hid (wx.heap[w.heap.size]? = some (.cells (bv (wordC k lo)).toArray 5 (0, 0)) ∧ Below w.heap.size w wx))
  case atStart => exact ⟨7, lo, rfl, Nat.le_refl _, rfl, rfl, by show _ = _; simp, HI⟩
  case round =>
    clear HI
    obtain ⟨j, q, hj, hk, rfl, rfl, hq, hinv⟩ := hrel
    obtain ⟨hblk, hbel⟩ := hinv.out
    cases gk with
    | zero =>
      have t1 : ¬ 0 ≤ j := by omega
      have HO := Lib.hid (own_eight wr w.heap.size (wordC 0 lo) (wordC_len 0 lo (by omega)) w.heap.size (Nat.le_refl _) hblk)
      have HB := Lib.hid hbel
      clear hj hq hinv hblk hbel
      go_wp2
      go_ret
      exact ⟨_, rfl, HO.out, HB.out⟩
    | succ k =>
      have t1 : 0 ≤ j := by omega
      have t2 : j < 8 := by omega
      have hq64 : q < 18446744073709551616 := by
        rw [hq.out]
        exact Nat.lt_of_le_of_lt (Nat.div_le_self _ _) HLO.out
      have t3 : (q : Int) < 18446744073709551616 := by omega
      have hjt : j.toNat = k := by omega
      have hc1 : wr.frozen? ⟨w.heap.size, k, none⟩ = false := by simp [World.frozen?, hblk]
      have hc2 : ∃ x, wr.cell? ⟨w.heap.size, k, none⟩ = some x := by
        have hlt : k < (bv (wordC (k + 1) lo)).length := by rw [bv_len, wordC_len _ _ hk]; omega
        exact ⟨(bv (wordC (k + 1) lo))[k], by simp [World.cell?, hblk]⟩
      obtain ⟨x, hx⟩ := hc2
      obtain ⟨c, hc⟩ : ∃ c, c = q % 256 := ⟨_, rfl⟩
      obtain ⟨q2, hq2⟩ : ∃ q2, q2 = q / 256 := ⟨_, rfl⟩
      have e1 : (q : Int) % 256 = (c : Int) := by omega
      have e2 : (q : Int) / 256 = (q2 : Int) := by omega
      have FIN : Hid ((wr.setCell ⟨w.heap.size, k, none⟩ (.int .u8 (c : Int))).heap[w.heap.size]? = some (.cells (bv (wordC k lo)).toArray 5 (0, 0)) ∧ Below w.heap.size w (wr.setCell ⟨w.heap.size, k, none⟩ (.int .u8 (c : Int)))) := by
        refine ⟨?_, hbel.setCell (p := ⟨w.heap.size, k, none⟩) (Nat.le_refl _) _⟩
        have h1 := heap_setCell_same wr w.heap.size k (bv (wordC (k + 1) lo)).toArray 5 (.int .u8 (c : Int)) hblk
        rw [h1, ← wordC_step k lo (by omega), hc, hq.out, show 8 - (k + 1) = 7 - k by omega]
        simp [bv, List.map_set]
      have HQ2 : Hid (q2 = lo / 256 ^ (8 - k)) := by
        show _ = _
        rw [hq2, hq.out, Nat.div_div_eq_div_mul, ← Nat.pow_succ, show (8 - (k + 1)).succ = 8 - k by omega]
      have HJ := Lib.hid hj
      have HKK := Lib.hid hk
      clear hj hq hinv hblk hbel hc hq2 hq64 hk
      go_wp2
      go_roundg k
      case measure => omega
      case rel => exact ⟨j - 1, q2, by have := HJ.out; omega, by have := HKK.out; omega, by go_num, rfl, HQ2, FIN⟩
end Go.Proofs.YteahloddjekakaaDoor.Oc

namespace Go.Proofs.YteahloddjekakaaDoor.Nt
open Go.RowKit Td

/-- A row of the call's own, of the bytes l; whatever lay in w0 is as it was. -/
structure RB (w0 : World) (B : Nat) (v : Value) (l : List Int) (w : World) : Prop where
  own : w.ownsRow B 5 1 v l.length (Oc.bv l)
  bel : Below w0.heap.size w0 w
  h1 : w0.heap.size ≤ B
  h2 : B ≤ w.heap.size
theorem RB.form {w0 w : World} {B : Nat} {v : Value} {l : List Int} (h : RB w0 B v l w) : ∃ A n c, v = .slice A n c := by
  rcases h.own.2 with ⟨h1, _⟩ | ⟨g, cap, _, h1, _⟩
  · exact ⟨none, 0, 0, h1⟩
  · exact ⟨_, _, cap, h1⟩
theorem RB.kept {w0 w w' : World} {B : Nat} {v : Value} {l : List Int} (h : RB w0 B v l w) (hb : Below w.heap.size w w') : RB w0 B v l w' :=
  ⟨Oc.ownsRow_kept h.own (fun g hg => hb.block g (h.own.lt g hg).2), h.bel.trans (hb.mono h.bel.size), h.h1, Nat.le_trans h.h2 hb.size⟩
theorem RB.app {w0 w w1 : World} {B : Nat} {v u : Value} {l bs : List Int} (h : RB w0 B v l w) (ho : w1.ownsRow w.heap.size 5 1 u bs.length (Oc.bv bs)) (hb : Below w.heap.size w w1) (h1 : 1 ≤ bs.length) (hl : l.length + bs.length ≤ 1048576) :
    ∃ A n c w2, (Builtin.append_ #[45, 45] 45 #[v, u]).run Tryd.prog w1 = .ok (.slice A n c) w2 ∧ RB w0 B (.slice A n c) (l ++ bs) w2 := by
  have h' := h.kept hb
  obtain ⟨i0, hi0, hz0, hz1, hz2⟩ := info_parts Oc.u8Inf
  obtain ⟨g, cap, rfl, hbg, _⟩ := ho.form (by omega)
  obtain ⟨v', w', hr, ho2, hg, _⟩ := run_append_own (P := Tryd.prog) w1 B 45 45 5 i0 (.int .u8 0) 1 1 Tryd.underlying45 hi0 hz0 hz1 hz2 rfl (by decide) v l.length (Oc.bv l) h'.own ⟨g, 0, none⟩ bs.length cap (Oc.bv bs) (by rw [Oc.bv_len, Nat.mul_one]) (ho.cells (g := g) rfl) (Oc.bv_one _) (by unfold maxLen; omega) (by omega) h'.h2
  have hR : RB w0 B v' (l ++ bs) w' := ⟨by rw [List.length_append, Oc.bv_app]; exact ho2, h'.bel.grown hg (Nat.le_trans h'.h1 h'.h2) (fun j hj => Nat.le_trans h'.h1 (h'.own.lt j hj).1), h'.h1, Nat.le_trans h'.h2 hg.size⟩
  obtain ⟨A, n, c, rfl⟩ := hR.form
  exact ⟨A, n, c, w', hr, hR⟩
theorem RB.appS {w0 w1 : World} {B : Nat} {v : Value} {l : List Int} (h' : RB w0 B v l w1) (s : ByteArray) (hl : l.length + s.size ≤ 1048576) :
    ∃ A n c w2, (Builtin.append_ #[45, 9] 45 #[v, .string s]).run Tryd.prog w1 = .ok (.slice A n c) w2 ∧ RB w0 B (.slice A n c) (l ++ Oc.sb s) w2 := by
  obtain ⟨v', w', hr, ho2, hg, _⟩ := Oc.app_str w1 B v l h'.own s hl h'.h2
  have hR : RB w0 B v' (l ++ Oc.sb s) w' := ⟨by rw [List.length_append, Oc.bv_app]; exact ho2, h'.bel.grown hg (Nat.le_trans h'.h1 h'.h2) (fun j hj => Nat.le_trans h'.h1 (h'.own.lt j hj).1), h'.h1, Nat.le_trans h'.h2 hg.size⟩
  obtain ⟨A, n, c, rfl⟩ := hR.form
  exact ⟨A, n, c, w', hr, hR⟩
theorem RB.of {w w1 : World} {u : Value} {bs : List Int} (ho : w1.ownsRow w.heap.size 5 1 u bs.length (Oc.bv bs)) (hb : Below w.heap.size w w1) : RB w w.heap.size u bs w1 := ⟨ho, hb, Nat.le_refl _, hb.size⟩

set_option maxRecDepth 100000 in
theorem rtext_any (w : World) (s : ByteArray) (hs : s.size ≤ 100000) : Calls Tryd.prog 51 #[.string s] w fun e w' => ∃ v, e = .returned v ∧ w'.ownsRow w.heap.size 5 1 v (tx s).length (Oc.bv (tx s)) ∧ Below w.heap.size w w' := by
  obtain ⟨q, hq⟩ : ∃ q, q = s.size := ⟨_, rfl⟩
  have hq2 : s.size = q := hq.symm
  have HE : Hid (tx s = Oc.grp q ++ Oc.sb s) := by show _ = _; rw [hq]; rfl
  have hq5 : q ≤ 100000 := by omega
  have HC := Lib.hid (Oc.fgroups_any w q (by omega))
  have HQ : Hid (s.size = q) := hq2
  have hwq : IntKind.u64.wrap (q : Int) = (q : Int) := by rw [IntKind.wrap_u64]; omega
  clear hq hs
  go_enter Tryd.func51, Tryd.ntmps51
  go_wp2_with (first
    | (at_builtin; refine Lib.wpList_append_run _ rfl _ _ _ _ rfl _ _ rfl rfl _ _ hrun ?_)
    | (go_at_call 49; refine HC.out.mono ?_; rintro e w1 ⟨u, rfl, ho, hb⟩
       have hln := (Oc.grp_len q).1
       obtain ⟨A1, n1, c1, rfl⟩ := (RB.of ho hb).form
       obtain ⟨A2, n2, c2, w2, hrun, s2⟩ := (RB.of ho hb).appS s (by have := HQ.out; omega)
       have S2 := Lib.hid s2
       clear ho hb s2 hln))
  go_ret
  refine ⟨_, rfl, ?_, S2.out.bel⟩
  rw [HE.out]
  exact S2.out.own
set_option maxRecDepth 100000 in
theorem rnumber_any (w : World) (x : Int) (hx : I64 x) : Calls Tryd.prog 52 #[.int .i64 x] w fun e w' => ∃ v, e = .returned v ∧ w'.ownsRow w.heap.size 5 1 v (nb x).length (Oc.bv (nb x)) ∧ Below w.heap.size w w' := by
  have HZ := Lib.hid (Oc.zigzag_any w x hx.1 hx.2)
  have HC := Lib.hid (fun W => Oc.fgroups_any W (Oc.fold x) (Oc.fold_lt hx.1 hx.2))
  clear hx
  go_enter Tryd.func52, Tryd.ntmps52
  go_wp2_with (first
    | (go_at_call 49; refine (HC.out _).mono ?_; rintro e w1 ⟨u, rfl, ho, hb⟩; have HO := Lib.hid ho; have HB := Lib.hid hb; clear ho hb)
    | (go_at_call 82; refine HZ.out.mono ?_; rintro e w1 ⟨rfl, rfl⟩))
  go_ret
  exact ⟨_, rfl, HO.out, HB.out⟩
end Go.Proofs.YteahloddjekakaaDoor.Nt

namespace Go.Proofs.YteahloddjekakaaDoor.Nt
open Go.RowKit Td

set_option maxRecDepth 100000 in
theorem rTbytes_any (w : World) (s : ByteArray) (hs : s.size ≤ 100000) : Calls Tryd.prog 81 #[.string s] w fun e w' => ∃ v, e = .returned v ∧ w'.ownsRow w.heap.size 5 1 v (tx s).length (Oc.bv (tx s)) ∧ Below w.heap.size w w' := by
  obtain ⟨q, hq⟩ : ∃ q, q = s.size := ⟨_, rfl⟩
  have hq2 : s.size = q := hq.symm
  have HE : Hid (tx s = Oc.grp q ++ Oc.sb s) := by show _ = _; rw [hq]; rfl
  have hq5 : q ≤ 100000 := by omega
  have HC := Lib.hid (Oc.fgroups_any w q (by omega))
  have HQ : Hid (s.size = q) := hq2
  have hwq : IntKind.u64.wrap (q : Int) = (q : Int) := by rw [IntKind.wrap_u64]; omega
  clear hq hs
  go_enter Tryd.func81, Tryd.ntmps81
  go_wp2_with (first
    | (at_builtin; refine Lib.wpList_append_run _ rfl _ _ _ _ rfl _ _ rfl rfl _ _ hrun ?_)
    | (go_at_call 49; refine HC.out.mono ?_; rintro e w1 ⟨u, rfl, ho, hb⟩
       have hln := (Oc.grp_len q).1
       obtain ⟨A1, n1, c1, rfl⟩ := (RB.of ho hb).form
       obtain ⟨A2, n2, c2, w2, hrun, s2⟩ := (RB.of ho hb).appS s (by have := HQ.out; omega)
       have S2 := Lib.hid s2
       clear ho hb s2 hln))
  go_ret
  refine ⟨_, rfl, ?_, S2.out.bel⟩
  rw [HE.out]
  exact S2.out.own
set_option maxRecDepth 100000 in
theorem rTlong_any (w : World) (x : Int) (hx : I64 x) : Calls Tryd.prog 80 #[.int .i64 x] w fun e w' => ∃ v, e = .returned v ∧ w'.ownsRow w.heap.size 5 1 v (nb x).length (Oc.bv (nb x)) ∧ Below w.heap.size w w' := by
  have HZ := Lib.hid (Oc.zigzag_any w x hx.1 hx.2)
  have HC := Lib.hid (fun W => Oc.fgroups_any W (Oc.fold x) (Oc.fold_lt hx.1 hx.2))
  clear hx
  go_enter Tryd.func80, Tryd.ntmps80
  go_wp2_with (first
    | (go_at_call 49; refine (HC.out _).mono ?_; rintro e w1 ⟨u, rfl, ho, hb⟩; have HO := Lib.hid ho; have HB := Lib.hid hb; clear ho hb)
    | (go_at_call 82; refine HZ.out.mono ?_; rintro e w1 ⟨rfl, rfl⟩))
  go_ret
  exact ⟨_, rfl, HO.out, HB.out⟩
theorem nb_len (x : Int) : (nb x).length ≤ 10 ∧ 1 ≤ (nb x).length := Oc.grp_len _
theorem tx_len2 (s : ByteArray) : (tx s).length ≤ 10 + s.size ∧ 1 ≤ (tx s).length := by have := Oc.grp_len s.size; rw [tx_len]; omega
set_option maxRecDepth 100000 in
set_option maxHeartbeats 8000000 in
theorem rTPut_any (w : World) (t : Tr) (h1 : I64 t.n) (h2 : I64 t.q) (h3 : I64 t.p) (hb : t.b.size ≤ 100000) (hs : t.s.size ≤ 100000) (hi : t.i.size ≤ 100000) :
    Calls Tryd.prog 50 #[.agg #[.int .i64 t.n, .string t.b, .string t.s, .string t.i, .int .i64 t.q, .int .i64 t.p]] w fun e w' => ∃ v, e = .returned v ∧ w'.ownsRow w.heap.size 5 1 v (trB t).length (Oc.bv (trB t)) ∧ Below w.heap.size w w' := by
  have E0 := block_new w (.cells #[.int .i64 t.n, .string t.b, .string t.s, .string t.i, .int .i64 t.q, .int .i64 t.p] 23)
  have HB0 : Hid (Below w.heap.size w (w.alloc (.cells #[.int .i64 t.n, .string t.b, .string t.s, .string t.i, .int .i64 t.q, .int .i64 t.p] 23))) := (Below.refl _ _).alloc (Nat.le_refl _) _
  have H1 := Lib.hid (fun W => rTlong_any W t.n h1)
  have H2 := Lib.hid (fun W => rTlong_any W t.q h2)
  have H3 := Lib.hid (fun W => rTlong_any W t.p h3)
  have K1 := Lib.hid (fun W => rTbytes_any W t.b hb)
  have K2 := Lib.hid (fun W => rTbytes_any W t.s hs)
  have K3 := Lib.hid (fun W => rTbytes_any W t.i hi)
  have hl1 := nb_len t.n
  have hl2 := nb_len t.q
  have hl3 := nb_len t.p
  have kl1 := tx_len2 t.b
  have kl2 := tx_len2 t.s
  have kl3 := tx_len2 t.i
  have HT : Hid (nb t.n ++ tx t.b ++ tx t.s ++ tx t.i ++ nb t.q ++ nb t.p = trB t) := by show _ = _; simp [trB, txs]
  have r2 : (nb t.n).length + (tx t.b).length ≤ 1048576 := by omega
  have r3 : (nb t.n ++ tx t.b).length + (tx t.s).length ≤ 1048576 := by simp only [List.length_append]; omega
  have r4 : (nb t.n ++ tx t.b ++ tx t.s).length + (tx t.i).length ≤ 1048576 := by simp only [List.length_append]; omega
  have r5 : (nb t.n ++ tx t.b ++ tx t.s ++ tx t.i).length + (nb t.q).length ≤ 1048576 := by simp only [List.length_append]; omega
  have r6 : (nb t.n ++ tx t.b ++ tx t.s ++ tx t.i ++ nb t.q).length + (nb t.p).length ≤ 1048576 := by simp only [List.length_append]; omega
  have HR := Lib.hid (And.intro r2 (And.intro r3 (And.intro r4 (And.intro r5 r6))))
  have HL := Lib.hid (And.intro hl1.2 (And.intro kl1.2 (And.intro kl2.2 (And.intro kl3.2 (And.intro hl2.2 hl3.2)))))
  clear h1 h2 h3 hb hs hi hl1 hl2 hl3 kl1 kl2 kl3 r2 r3 r4 r5 r6
  go_enter Tryd.func50, Tryd.ntmps50
  go_upto_region 1 with fail
  generalize w.alloc _ = W0 at E0 HB0 ⊢
  have HE := Lib.hid E0
  obtain ⟨c0, c1, c2, c3, c4, c5⟩ := blk6 E0
  clear E0
  go_wp2_with (first
    | (at_builtin; refine Lib.wpList_append_run _ rfl _ _ _ _ rfl _ _ rfl rfl _ _ hrun ?_; clear hrun c0 c1 c2 c3 c4 c5; obtain ⟨c0, c1, c2, c3, c4, c5⟩ := blk6 (block_kept HE.out SX.out.bel))
    | (go_at_call 80; (with_reducible refine (H1.out _).mono ?_); rintro e x1 ⟨u, rfl, ho, hb⟩
       have s1 := RB.of ho hb
       obtain ⟨A1, n1, k1, rfl⟩ := s1.form
       have S1 := Lib.hid s1
       clear s1 ho hb c0 c1 c2 c3 c4 c5
       obtain ⟨c0, c1, c2, c3, c4, c5⟩ := blk6 (block_kept HE.out S1.out.bel))
    | (go_at_call 81; (with_reducible refine (K1.out _).mono ?_); rintro e x2 ⟨u, rfl, ho, hb⟩
       obtain ⟨A2, n2, k2, y2, hrun, s2⟩ := S1.out.app ho hb HL.out.2.1 HR.out.1
       obtain ⟨_, _, _, rfl⟩ := (RB.of ho hb).form
       have S2 := Lib.hid s2
       have SX := Lib.hid s2
       clear ho hb s2)
    | (go_at_call 81; (with_reducible refine (K2.out _).mono ?_); rintro e x3 ⟨u, rfl, ho, hb⟩
       obtain ⟨A3, n3, k3, y3, hrun, s3⟩ := S2.out.app ho hb HL.out.2.2.1 HR.out.2.1
       obtain ⟨_, _, _, rfl⟩ := (RB.of ho hb).form
       have S3 := Lib.hid s3
       have SX := Lib.hid s3
       clear ho hb s3)
    | (go_at_call 81; (with_reducible refine (K3.out _).mono ?_); rintro e x4 ⟨u, rfl, ho, hb⟩
       obtain ⟨A4, n4, k4, y4, hrun, s4⟩ := S3.out.app ho hb HL.out.2.2.2.1 HR.out.2.2.1
       obtain ⟨_, _, _, rfl⟩ := (RB.of ho hb).form
       have S4 := Lib.hid s4
       have SX := Lib.hid s4
       clear ho hb s4)
    | (go_at_call 80; (with_reducible refine (H2.out _).mono ?_); rintro e x5 ⟨u, rfl, ho, hb⟩
       obtain ⟨A5, n5, k5, y5, hrun, s5⟩ := S4.out.app ho hb HL.out.2.2.2.2.1 HR.out.2.2.2.1
       obtain ⟨_, _, _, rfl⟩ := (RB.of ho hb).form
       have S5 := Lib.hid s5
       have SX := Lib.hid s5
       clear ho hb s5)
    | (go_at_call 80; (with_reducible refine (H3.out _).mono ?_); rintro e x6 ⟨u, rfl, ho, hb⟩
       obtain ⟨A6, n6, k6, y6, hrun, s6⟩ := S5.out.app ho hb HL.out.2.2.2.2.2 HR.out.2.2.2.2
       obtain ⟨_, _, _, rfl⟩ := (RB.of ho hb).form
       have S6 := Lib.hid s6
       have SX := Lib.hid s6
       clear ho hb s6))
  go_ret
  refine ⟨_, rfl, ?_, HB0.out.trans (S6.out.bel.mono HB0.out.size)⟩
  rw [← HT.out]
  exact Oc.ownsRow_base S6.out.own HB0.out.size
end Go.Proofs.YteahloddjekakaaDoor.Nt
