/-
  Groups of seven bits; a number without its sign. The contracts of groups and folded. Conditions: none.
-/
import Derived.Test.YtklngdmpledgeaaGreatJZ5
namespace Go.Proofs.YtklngdmpledgeaaGreat.Oc
open Go.RowKit

/-- The groups of m, at most k + 1 of them. -/
def grpF : Nat → Nat → List Int
  | 0, m => [(m : Int)]
  | k + 1, m => if m < 128 then [(m : Int)] else (((m % 128 : Nat) : Int) + 128) :: grpF k (m / 128)
def grp (m : Nat) : List Int := grpF 9 m
theorem grpF_one {k m : Nat} (h : m < 128) : grpF k m = [(m : Int)] := by
  cases k with
  | zero => rfl
  | succ k => unfold grpF; rw [if_pos h]
theorem grpF_more {k m : Nat} (h : ¬ m < 128) : grpF (k + 1) m = (((m % 128 : Nat) : Int) + 128) :: grpF k (m / 128) := by
  rw [grpF, if_neg h]
theorem grpF_len (k m : Nat) : (grpF k m).length ≤ k + 1 ∧ 1 ≤ (grpF k m).length := by
  induction k generalizing m with
  | zero => simp [grpF]
  | succ k ih =>
    unfold grpF
    split
    · simp
    · have := ih (m / 128)
      simp only [List.length_cons]; omega
theorem grp_len (m : Nat) : (grp m).length ≤ 10 ∧ 1 ≤ (grp m).length := grpF_len 9 m
/-- A number without its sign. -/
def fold (x : Int) : Nat := if x < 0 then (2 * (-x - 1) + 1).toNat else (2 * x).toNat

theorem block_cellv {w : World} {b : Nat} {x : Value} {t : TypeId} (h : w.heap[b]? = some (.cells #[x] t (0, 0))) : w.cell? ⟨b, 0, none⟩ = some x := (block_cell h).1
set_option maxRecDepth 100000 in
theorem cut1_any (w : World) (B m : Nat) (h : w.heap[B]? = some (.cells #[.int .u64 (m : Int)] 84 (0, 0))) (hm : m < 18446744073709551616) :
    Calls Tryz.prog 99 #[.pointer (some ⟨B, 0, none⟩)] w fun e w' => e = .returned (.int .u8 ((m % 128 : Nat) : Int)) ∧ w' = w.setCell ⟨B, 0, none⟩ (.int .u64 ((m / 128 : Nat) : Int)) := by
  obtain ⟨c1, f1⟩ := block_cell h
  go_enter Tryz.func99, Tryz.ntmps99
  go_wp2
  go_ret
  exact ⟨rfl, rfl⟩

/-- The groups while they are made. -/
def GrpI (w : World) (n : Nat) (k : Nat) (v : Value) (wx : World) : Prop :=
  ∃ (m : Nat) (acc : List Int), wx.heap[w.heap.size]? = some (.cells #[.int .u64 (m : Int)] 84 (0, 0)) ∧ wx.ownsRow (w.heap.size + 1) 5 1 v acc.length (bv acc) ∧ Below w.heap.size w wx ∧
    acc ++ grpF k m = grp n ∧ m < 2 * 128 ^ k ∧ acc.length + k = 9
theorem cell_one_new (w : World) (x : Value) (t : TypeId) : ∀ j u, [x][j]? = some u → (w.alloc (.cells #[x] t)).cell? ((⟨w.heap.size, 0, none⟩ : Addr).add j) = some u :=
  World.news_of_block (heap_alloc_new w _)
theorem made10 : ∀ W : World, (Instr.makeSlice 22 (.int .i64 0) (.int .i64 10)).run Tryz.prog W = .ok (.slice (some ⟨W.heap.size, 0, none⟩) 0 10) (W.alloc (.cells #[.int .u8 0, .int .u8 0, .int .u8 0, .int .u8 0, .int .u8 0, .int .u8 0, .int .u8 0, .int .u8 0, .int .u8 0, .int .u8 0] 5)) := fun _ => by kernel_rfl
/-- One group more. -/
theorem grp_step {k m : Nat} {acc : List Int} {n : Nat} (h : acc ++ grpF (k + 1) m = grp n) (hm : ¬ m < 128) : (acc ++ [((m % 128 : Nat) : Int) + 128]) ++ grpF k (m / 128) = grp n := by
  rw [← h, grpF_more hm]; simp
set_option maxRecDepth 100000 in
set_option maxHeartbeats 4000000 in
theorem groups_any (w : World) (n : Nat) (hn : n < 18446744073709551616) :
    Calls Tryz.prog 81 #[.int .u64 (n : Int)] w fun e w' => ∃ v, e = .returned v ∧ w'.ownsRow w.heap.size 5 1 v (grp n).length (bv (grp n)) ∧ Below w.heap.size w w' := by
  obtain ⟨i0, hi0, hz0, hz1, hz2⟩ := info_parts u8Inf
  have hmk := made10
  have hmf : ∀ (fn : Fn) (first cap : Array Value) (w : World), (Instr.makeFunc fn first cap).run Tryz.prog w = .ok (.func fn first cap) w := fun _ _ _ _ => rfl
  have h0 : Hid (GrpI w n 9 (.slice (some ⟨w.heap.size + 1, 0, none⟩) 0 10) ((w.alloc (.cells #[.int .u64 (n : Int)] 84)).alloc (.cells #[.int .u8 0, .int .u8 0, .int .u8 0, .int .u8 0, .int .u8 0, .int .u8 0, .int .u8 0, .int .u8 0, .int .u8 0, .int .u8 0] 5))) := by
    refine ⟨n, [], block_old (block_new _ _) _, ?_, ((Below.refl _ _).alloc (Nat.le_refl _) _).alloc (by simp) _, rfl, by omega, rfl⟩
    have := World.ownsRow_made (base := w.heap.size + 1) (e := 5) (size := 1) (w.alloc (.cells #[.int .u64 (n : Int)] 84)) #[.int .u8 0, .int .u8 0, .int .u8 0, .int .u8 0, .int .u8 0, .int .u8 0, .int .u8 0, .int .u8 0, .int .u8 0, .int .u8 0] 10 (by simp) (by decide) rfl
    simpa [bv] using this
  go_enter Tryz.func81, Tryz.ntmps81
  go_wp2
  go_loopg [4] 9 (fun k s4 wx => Hid (GrpI w n k s4 wx))
  case atStart => exact h0
  case round =>
    clear h0
    have hi := hrel.out
    clear hrel
    obtain ⟨m, acc, hb, hown, hbel, heq, hm, hacc⟩ := hi
    obtain ⟨c1, f1⟩ := block_cell hb
    have hm64 : m < 18446744073709551616 := by
      have : (128 : Nat) ^ gk ≤ 128 ^ 9 := Nat.pow_le_pow_right (by decide) (by omega)
      have e9 : (128 : Nat) ^ 9 = 9223372036854775808 := by decide
      omega
    have HC := Lib.hid (cut1_any wr w.heap.size m hb hm64)
    have hz := hbel.size
    have HO := Lib.hid hown
    have HE := Lib.hid heq
    have HB := Lib.hid hbel
    have HBB := Lib.hid hb
    have HM := Lib.hid hm
    have hlt : w.heap.size < wr.heap.size := (Array.getElem?_eq_some_iff.1 hb).1
    obtain ⟨c, hc⟩ : ∃ c, c = m % 128 := ⟨_, rfl⟩
    obtain ⟨m2, hm2⟩ : ∃ m2, m2 = m / 128 := ⟨_, rfl⟩
    rw [← hc, ← hm2] at HC
    have hc2 : c < 128 := by omega
    have O1 : Hid ((wr.setCell ⟨w.heap.size, 0, none⟩ (.int .u64 (m2 : Int))).ownsRow (w.heap.size + 1) 5 1 u4 acc.length (bv acc)) := ownsRow_kept hown (fun g hg => Below.heap_setCell _ _ _ _ (by have := (hown.lt g hg).1; show g ≠ w.heap.size; omega))
    have hsz : (wr.setCell ⟨w.heap.size, 0, none⟩ (.int .u64 (m2 : Int))).heap.size = wr.heap.size := by simp [World.setCell]
    have B1 : Hid (Below w.heap.size w (wr.setCell ⟨w.heap.size, 0, none⟩ (.int .u64 (m2 : Int)))) := hbel.setCell (p := ⟨w.heap.size, 0, none⟩) (Nat.le_refl _) _
    have HB1 : Hid ((wr.setCell ⟨w.heap.size, 0, none⟩ (.int .u64 (m2 : Int))).heap[w.heap.size]? = some (.cells #[.int .u64 (m2 : Int)] 84 (0, 0))) := block_put hb _
    have HSZ := Lib.hid hsz
    have HF : Hid ((m < 128 → grp n = acc ++ [(c : Int)]) ∧ (¬ m < 128 → ∃ k, gk = k + 1 ∧ (acc ++ [(c : Int) + 128]) ++ grpF k m2 = grp n ∧ m2 < 2 * 128 ^ k ∧ (acc ++ [(c : Int) + 128]).length + k = 9)) := by
      refine ⟨fun h => ?_, fun h => ?_⟩
      · rw [← heq, grpF_one h, hc, Nat.mod_eq_of_lt h]
      · cases gk with
        | zero => omega
        | succ k => exact ⟨k, rfl, by rw [hc, hm2]; exact grp_step heq h, by rw [hm2]; rw [Nat.pow_succ] at hm; omega, by simp; omega⟩
    have hal : acc.length ≤ 9 := by omega
    clear hown hbel heq hb hsz hc hm2 hm hacc
    by_cases hbig : m < 128
    · have t1 : ¬ (128 : Int) ≤ (m : Int) := by omega
      have HG := Lib.hid (HF.out.1 hbig)
      go_wp2_with (first
        | (at_builtin; refine wpList_append_lies _ rfl _ _ 22 rfl (w.heap.size + 1) 5 i0 _ 1 1 Tryz.underlying22 hi0 hz0 hz1 hz2 rfl (by decide) _ _ _ rfl (O1.out.alloc _) ⟨wr.heap.size, 0, none⟩ 1 1 [.int .u8 (c : Int)] rfl rfl (by rw [← HSZ.out]; exact cell_one_new _ _ _) (by simp [Value.oneCell']) (by decide) (by unfold maxLen; omega) (by omega) (by simp; omega) _ rfl ?_; intro gg cp w2 hown2 hgrow hat hlt2)
        | (go_at_call 99; refine HC.out.mono ?_; rintro e w1 ⟨rfl, rfl⟩))
      go_ret
      have HB2 : Hid (Below w.heap.size w w2) := (B1.out.alloc (by rw [HSZ.out]; omega) _).grown hgrow (by simp [World.setCell]; omega) (fun j hj => by have := (O1.out.lt j hj).1; omega)
      refine ⟨_, rfl, ?_, HB2.out⟩
      rw [HG.out, List.length_append, bv_app]
      exact ownsRow_base hown2 (Nat.le_succ _)
    · have t1 : (128 : Int) ≤ (m : Int) := by omega
      obtain ⟨k, rfl, hk1, hk2, hk3⟩ := HF.out.2 hbig
      have HK1 := Lib.hid hk1
      have HK2 := Lib.hid hk2
      have HK3 := Lib.hid hk3
      clear hk1 hk2 hk3
      go_wp2_with (first
        | (at_builtin; refine wpList_append_lies _ rfl _ _ 22 rfl (w.heap.size + 1) 5 i0 _ 1 1 Tryz.underlying22 hi0 hz0 hz1 hz2 rfl (by decide) _ _ _ rfl (O1.out.alloc _) ⟨wr.heap.size, 0, none⟩ 1 1 [.int .u8 ((c : Int) + 128)] rfl rfl (by rw [← HSZ.out]; exact cell_one_new _ _ _) (by simp [Value.oneCell']) (by decide) (by unfold maxLen; omega) (by omega) (by simp; omega) _ rfl ?_; intro gg cp w2 hown2 hgrow hat hlt2)
        | (go_at_call 99; refine HC.out.mono ?_; rintro e w1 ⟨rfl, rfl⟩))
      have HB2 : Hid (Below w.heap.size w w2) := (B1.out.alloc (by rw [HSZ.out]; omega) _).grown hgrow (by simp [World.setCell]; omega) (fun j hj => by have := (O1.out.lt j hj).1; omega)
      have HN : Hid (w2.heap[w.heap.size]? = some (.cells #[.int .u64 (m2 : Int)] 84 (0, 0))) := (hgrow.block _ (by simp [World.setCell]; omega) (fun e => by have := (O1.out.lt _ e.symm).1; omega)).trans (block_old HB1.out _)
      have HO2 : Hid (w2.ownsRow (w.heap.size + 1) 5 1 (.slice (some ⟨gg, 0, none⟩) (acc.length + 1) cp) (acc ++ [(c : Int) + 128]).length (bv (acc ++ [(c : Int) + 128]))) := by
        show World.ownsRow _ _ _ _ _ _ _
        rw [List.length_append, bv_app]
        exact hown2
      go_roundg k
      case measure => omega
      case rel => exact ⟨m2, _, HN.out, HO2.out, HB2.out, HK1.out, HK2.out, HK3.out⟩
theorem not64 (x : Int) (h1 : -9223372036854775808 ≤ x) (h2 : x < 9223372036854775808) : bits .xor .i64 (-1) x = -1 - x := by
  show IntKind.i64.wrap ((BitVec.ofInt 64 (-1) ^^^ BitVec.ofInt 64 x).toNat : Int) = _
  have h3 : BitVec.ofInt 64 (-1) = BitVec.allOnes 64 := by decide
  rw [h3, BitVec.allOnes_xor, BitVec.toNat_not, BitVec.toNat_ofInt]
  simp [IntKind.wrap, IntKind.bits, IntKind.signed]
  omega
end Go.Proofs.YtklngdmpledgeaaGreat.Oc

namespace Go.Proofs.YtklngdmpledgeaaGreat.Oc
open Go.RowKit

/-- The bytes behind a call, if there was no mistake. -/
def addB (er : Int) (l bs : List Int) : List Int := if er = 0 then l ++ bs else l
theorem addB_no (l bs : List Int) : addB 0 l bs = l ++ bs := by unfold addB; rw [if_pos rfl]
theorem addB_yes {er : Int} (h : ¬ er = 0) (l bs : List Int) : addB er l bs = l := by unfold addB; rw [if_neg h]
theorem addB_nil (er : Int) (l : List Int) : addB er l [] = l := by unfold addB; split <;> simp
theorem addB_addB (er : Int) (l bs cs : List Int) : addB er (addB er l bs) cs = addB er l (bs ++ cs) := by unfold addB; split <;> simp
/-- The first mistake. -/
def errB (er x : Int) : Int := if er = 0 then x else er
theorem errB_no (x : Int) : errB 0 x = x := rfl
theorem errB_yes {er : Int} (h : ¬ er = 0) (x : Int) : errB er x = er := by unfold errB; rw [if_neg h]
/-- A slice that holds bytes at the head of a block. -/
def Src (w : World) (u : Value) (bs : List Int) : Prop :=
  ∃ g cap, u = .slice (some ⟨g, 0, none⟩) bs.length cap ∧ ∀ j x, (bv bs)[j]? = some x → w.cell? ((⟨g, 0, none⟩ : Addr).add j) = some x
theorem Src.of_own {w : World} {base : Nat} {u : Value} {bs : List Int} (h : w.ownsRow base 5 1 u bs.length (bv bs)) (hb : 1 ≤ bs.length) : Src w u bs := by
  obtain ⟨g, cap, rfl, _, _⟩ := h.form (by omega)
  exact ⟨g, cap, rfl, h.cells (g := g) rfl⟩
theorem Src.kept {w w' : World} {u : Value} {bs : List Int} (h : Src w u bs) (hb : Below w.heap.size w w') : Src w' u bs := by
  obtain ⟨g, cap, rfl, h1⟩ := h
  refine ⟨g, cap, rfl, fun j x hx => ?_⟩
  have h2 := h1 j x hx
  exact (hb.cell (World.block_lt_of_cell? _ _ h2)).trans h2

set_option maxRecDepth 100000 in
theorem takes_nil (w : World) (n : Int) : Calls Tryz.prog 98 #[.pointer none, .int .i64 n] w fun e w' => e = .returned (.bool false) ∧ w = w' := by
  go_enter Tryz.func98, Tryz.ntmps98
  go_wp2
  go_ret
  exact ⟨rfl, rfl⟩
set_option maxRecDepth 100000 in
theorem takes_bad (w : World) (b : Nat) (er n : Int) (l : List Int) (v : Value) (h : WrR w b er l v) (he : ¬ er = 0) : Calls Tryz.prog 98 #[.pointer (some ⟨b, 0, none⟩), .int .i64 n] w fun e w' => e = .returned (.bool false) ∧ w = w' := by
  have HF := Lib.hid (failed_yes w b er he (block_cell2 h.1).1.1)
  go_enter Tryz.func98, Tryz.ntmps98
  go_wp2_with (go_at_call 93; refine HF.out.mono ?_; rintro e w1 ⟨rfl, rfl⟩)
  go_ret
  exact ⟨rfl, rfl⟩
theorem WrR.shape {w : World} {b : Nat} {er : Int} {l : List Int} {v : Value} (h : WrR w b er l v) : ∃ A cap, v = .slice A l.length cap := by
  rcases h.2.1.2 with ⟨h1, h2⟩ | ⟨g, cap, _, h1, _⟩
  · exact ⟨none, 0, by rw [h1, h2]⟩
  · exact ⟨_, cap, h1⟩
set_option maxRecDepth 100000 in
theorem takes_ok (w : World) (b n : Nat) (l : List Int) (v : Value) (h : WrR w b 0 l v) (hn : l.length + n ≤ 1048576) : Calls Tryz.prog 98 #[.pointer (some ⟨b, 0, none⟩), .int .i64 (n : Int)] w fun e w' => e = .returned (.bool true) ∧ w = w' := by
  have HF := Lib.hid (failed_no w b (block_cell2 h.1).1.1)
  obtain ⟨A, cap, rfl⟩ := h.shape
  obtain ⟨⟨c1, c2⟩, _⟩ := block_cell2 h.1
  obtain ⟨m, hm⟩ : ∃ m, m = l.length := ⟨_, rfl⟩
  rw [← hm] at c2 hn
  have t1 : ¬ (1048576 : Int) - (m : Int) < (n : Int) := by omega
  have hmm := h.2.2
  have t2 : m ≤ 1048576 := by omega
  clear hm hmm h
  go_enter Tryz.func98, Tryz.ntmps98
  go_wp2_with (go_at_call 93; refine HF.out.mono ?_; rintro e w1 ⟨rfl, rfl⟩)
  go_ret
  exact ⟨rfl, rfl⟩
set_option maxRecDepth 100000 in
theorem stop_nil (w : World) (x : Int) : Calls Tryz.prog 79 #[.pointer none, .int .i64 x] w fun e w' => e = .returned (.pointer none) ∧ w = w' := by
  go_enter Tryz.func79, Tryz.ntmps79
  go_wp2
  go_ret
  exact ⟨rfl, rfl⟩
set_option maxRecDepth 100000 in
theorem stop_any (w : World) (b : Nat) (er x : Int) (l : List Int) (v : Value) (h : WrR w b er l v) : Calls Tryz.prog 79 #[.pointer (some ⟨b, 0, none⟩), .int .i64 x] w fun e w' => e = .returned (.pointer (some ⟨b, 0, none⟩)) ∧ WrTo b v w (errB er x) [] w' := by
  obtain ⟨⟨c1, c2⟩, f1, f2⟩ := block_cell2 h.1
  by_cases he : er = 0
  · subst he
    rw [errB_no]
    have HF := Lib.hid (fail_set w b x c1 f1)
    obtain ⟨s1, s2⟩ := wr_set1 h x
    obtain ⟨s3, s4⟩ := wr_clear s1
    have HT : Hid (∀ w', w' = (w.setCell ⟨b, 0, none⟩ (.int .i64 x)).setCell ⟨b, 1, none⟩ (.slice none 0 0) → WrTo b v w x [] w') := fun w' e => by subst e; exact ⟨_, s3, s2.trans s4⟩
    obtain ⟨⟨d1, d2⟩, g1, g2⟩ := block_cell2 s1.1
    clear h c1 c2 f1 f2 s1 s2 s3 s4
    go_enter Tryz.func79, Tryz.ntmps79
    go_wp2_with (go_at_call 92; refine HF.out.mono ?_; rintro e w1 ⟨rfl, rfl⟩)
    go_ret
    exact ⟨rfl, HT.out _ rfl⟩
  · rw [errB_yes he]
    have HF := Lib.hid (fail_no w b er x he c1)
    obtain ⟨s3, s4⟩ := wr_clear h
    have HT : Hid (∀ w', w' = w.setCell ⟨b, 1, none⟩ (.slice none 0 0) → WrTo b v w er [] w') := fun w' e => by subst e; exact ⟨_, s3, s4⟩
    clear h s3 s4
    go_enter Tryz.func79, Tryz.ntmps79
    go_wp2_with (go_at_call 92; refine HF.out.mono ?_; rintro e w1 ⟨rfl, rfl⟩)
    go_ret
    exact ⟨rfl, HT.out _ rfl⟩
set_option maxRecDepth 100000 in
theorem takes_big (w : World) (b n : Nat) (l : List Int) (v : Value) (h : WrR w b 0 l v) (hn : 1048576 < l.length + n) (_hn2 : n < 9223372036854775808) : Calls Tryz.prog 98 #[.pointer (some ⟨b, 0, none⟩), .int .i64 (n : Int)] w fun e w' => e = .returned (.bool false) ∧ WrTo b v w 2 [] w' := by
  have HF := Lib.hid (failed_no w b (block_cell2 h.1).1.1)
  have HS := Lib.hid (stop_any w b 0 2 l v h)
  obtain ⟨A, cap, rfl⟩ := h.shape
  obtain ⟨⟨c1, c2⟩, _⟩ := block_cell2 h.1
  obtain ⟨m, hm⟩ : ∃ m, m = l.length := ⟨_, rfl⟩
  have hmm := h.2.2
  rw [← hm] at c2 hn HS hmm ⊢
  have t1 : (1048576 : Int) - (m : Int) < (n : Int) := by omega
  clear hm h
  go_enter Tryz.func98, Tryz.ntmps98
  go_wp2_with (first
    | (go_at_call 93; refine HF.out.mono ?_; rintro e w1 ⟨rfl, rfl⟩)
    | (go_at_call 79; refine HS.out.mono ?_; rintro e w1 ⟨rfl, h1⟩; have H1 := Lib.hid h1; clear h1))
  go_ret
  exact ⟨rfl, H1.out⟩

set_option maxRecDepth 100000 in
theorem write_nil (w : World) (u : Value) (bs : List Int) (hu : Src w u bs) : Calls Tryz.prog 80 #[.pointer none, u] w fun e w' => e = .returned (.pointer none) ∧ w = w' := by
  obtain ⟨g, cap, rfl, _⟩ := hu
  have HT := Lib.hid (fun n => takes_nil w n)
  go_enter Tryz.func80, Tryz.ntmps80
  go_wp2_with (go_at_call 98; refine (HT.out _).mono ?_; rintro e w1 ⟨rfl, rfl⟩)
  go_ret
  exact ⟨rfl, rfl⟩
set_option maxRecDepth 100000 in
theorem write_any (w : World) (b : Nat) (er : Int) (l bs : List Int) (v u : Value) (h : WrR w b er l v) (hu : Src w u bs) (hb : 1 ≤ bs.length) (hr : er = 0 → l.length + bs.length ≤ 1048576) :
    Calls Tryz.prog 80 #[.pointer (some ⟨b, 0, none⟩), u] w fun e w' => e = .returned (.pointer (some ⟨b, 0, none⟩)) ∧ WrTo b v w er (addB er l bs) w' := by
  obtain ⟨g, cap, rfl, hcell⟩ := hu
  obtain ⟨i0, hi0, hz0, hz1, hz2⟩ := info_parts u8Inf
  obtain ⟨⟨c1, c2⟩, f1, f2⟩ := block_cell2 h.1
  by_cases he : er = 0
  · subst he
    have hr0 := hr rfl
    clear hr
    rw [addB_no]
    have HT := Lib.hid (takes_ok w b bs.length l v h hr0)
    have HO := Lib.hid h.2.1
    have HW := Lib.hid h
    have HC := Lib.hid hcell
    have hlt := h.lt
    have hll := h.2.2
    obtain ⟨n, hn⟩ : ∃ n, n = bs.length := ⟨_, rfl⟩
    have HN := Lib.hid hn
    rw [← hn] at hr0 hb HT ⊢
    clear h hcell hn
    go_enter Tryz.func80, Tryz.ntmps80
    go_wp2_with (first
      | (at_builtin; refine wpList_append_lies _ rfl _ _ 22 rfl (b + 1) 5 i0 _ 1 1 Tryz.underlying22 hi0 hz0 hz1 hz2 rfl (by decide) _ _ _ rfl HO.out ⟨g, 0, none⟩ n cap (bv bs) rfl (by rw [bv_len, HN.out]; omega) HC.out (bv_one _) (by omega) (by unfold maxLen; omega) (by omega) (by omega) _ rfl ?_; intro gg cp w2 hown2 hgrow hat hlt2
         have hb2 : w2.heap[b]? = some (.cells #[.int .i64 0, v] 111 (0, 0)) := (hgrow.block b hlt (fun e => by have := (HO.out.lt b e.symm).1; omega)).trans HW.out.1
         obtain ⟨⟨d1, d2⟩, g1, g2⟩ := block_cell2 hb2
         have HB2 := Lib.hid hb2
         have HOW := Lib.hid hown2
         have HG := Lib.hid hgrow
         have HA := Lib.hid hat
         clear hb2 hown2 hgrow hat)
      | (go_at_call 98; refine HT.out.mono ?_; rintro e w1 ⟨rfl, rfl⟩))
    go_ret
    have fin := wr_grown HW.out (bs := bs) (by rw [← HN.out]; exact HOW.out) HG.out (by
      rcases HA.out with h3 | h3
      · exact .inr (.inl h3.symm)
      · exact .inr (.inr ⟨gg, rfl, by omega⟩)) (by rw [← HN.out]; exact hr0)
    exact ⟨rfl, _, fin.1, fin.2⟩
  · rw [addB_yes he]
    have HT := Lib.hid (takes_bad w b er bs.length l v h he)
    have HW := Lib.hid (WrTo.same h (Below.refl _ _))
    clear h hcell hr
    go_enter Tryz.func80, Tryz.ntmps80
    go_wp2_with (go_at_call 98; refine HT.out.mono ?_; rintro e w1 ⟨rfl, rfl⟩)
    go_ret
    exact ⟨rfl, HW.out⟩

/-! ### Count, Number, Byte -/
set_option maxRecDepth 100000 in
theorem count_nil (w : World) (x : Int) (h1 : -9223372036854775808 ≤ x) (h2 : x < 9223372036854775808) : Calls Tryz.prog 54 #[.pointer none, .int .i64 x] w fun e w' => e = .returned (.pointer none) ∧ Below w.heap.size w w' := by
  by_cases hx : x < 0
  · have HS := Lib.hid (stop_nil w 1)
    go_enter Tryz.func54, Tryz.ntmps54
    go_wp2_with (go_at_call 79; refine HS.out.mono ?_; rintro e w1 ⟨rfl, rfl⟩)
    go_ret
    exact ⟨rfl, Below.refl _ _⟩
  · obtain ⟨n, rfl⟩ : ∃ n : Nat, x = (n : Int) := ⟨x.toNat, by omega⟩
    have HG := Lib.hid (groups_any w n (by omega))
    go_enter Tryz.func54, Tryz.ntmps54
    go_wp2_with (first
      | (go_at_call 80; refine (write_nil w1 u (grp n) (Src.of_own O1.out (grp_len n).2)).mono ?_; rintro e w2 ⟨rfl, rfl⟩)
      | (go_at_call 81; refine HG.out.mono ?_; rintro e w1 ⟨u, rfl, hown, hb1⟩; have O1 := Lib.hid hown; have B1 := Lib.hid hb1; clear hown hb1))
    go_ret
    exact ⟨rfl, B1.out⟩
set_option maxRecDepth 100000 in
theorem count_neg (w : World) (b : Nat) (er x : Int) (l : List Int) (v : Value) (h : WrR w b er l v) (hx : x < 0) : Calls Tryz.prog 54 #[.pointer (some ⟨b, 0, none⟩), .int .i64 x] w fun e w' => e = .returned (.pointer (some ⟨b, 0, none⟩)) ∧ WrTo b v w (errB er 1) [] w' := by
  have HS := Lib.hid (stop_any w b er 1 l v h)
  go_enter Tryz.func54, Tryz.ntmps54
  go_wp2_with (go_at_call 79; refine HS.out.mono ?_; rintro e w1 ⟨rfl, h1⟩; have H1 := Lib.hid h1; clear h1)
  go_ret
  exact ⟨rfl, H1.out⟩
set_option maxRecDepth 100000 in
theorem count_any (w : World) (b : Nat) (er : Int) (n : Nat) (l : List Int) (v : Value) (h : WrR w b er l v) (hn : n < 9223372036854775808) (hr : er = 0 → l.length + (grp n).length ≤ 1048576) : Calls Tryz.prog 54 #[.pointer (some ⟨b, 0, none⟩), .int .i64 (n : Int)] w fun e w' => e = .returned (.pointer (some ⟨b, 0, none⟩)) ∧ WrTo b v w er (addB er l (grp n)) w' := by
  have HG := Lib.hid (groups_any w n (by omega))
  have HW := Lib.hid h
  have HR := Lib.hid hr
  clear h hr
  go_enter Tryz.func54, Tryz.ntmps54
  go_wp2_with (first
    | (go_at_call 80; refine (write_any w1 b er l (grp n) v u (HW.out.below B1.out) (Src.of_own O1.out (grp_len n).2) (grp_len n).2 HR.out).mono ?_; rintro e w2 ⟨rfl, h2⟩; have H2 := Lib.hid (WrTo.trans (WFr.of_below B1.out) h2); clear h2)
    | (go_at_call 81; refine HG.out.mono ?_; rintro e w1 ⟨u, rfl, hown, hb1⟩; have O1 := Lib.hid hown; have B1 := Lib.hid hb1; clear hown hb1))
  go_ret
  exact ⟨rfl, H2.out⟩
theorem fold_lt {x : Int} (h1 : -9223372036854775808 ≤ x) (h2 : x < 9223372036854775808) : fold x < 18446744073709551616 := by unfold fold; split <;> omega
theorem src_one (w : World) (x : Int) : Src (w.alloc (.cells #[.int .u8 x] 5)) (.slice (some ⟨w.heap.size, 0, none⟩) 1 1) [x] := ⟨_, 1, rfl, by simpa [bv] using cell_one_new w (.int .u8 x) 5⟩
end Go.Proofs.YtklngdmpledgeaaGreat.Oc
