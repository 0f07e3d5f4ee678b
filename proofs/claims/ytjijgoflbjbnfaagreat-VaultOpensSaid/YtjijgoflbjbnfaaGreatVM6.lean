/-
  Groups of seven bits; a number without its sign. The contracts of groups and folded. Conditions: none.
-/
import Derived.Test.YtjijgoflbjbnfaaGreatVM5
import Derived.Shelf.Bytes.SlClone
import Derived.Lib.AppendZeros
import Derived.Deep.RegionHeld3
namespace Go.Proofs.YtjijgoflbjbnfaaGreat.Oc
open Go.RowKit

/-- The groups of m, at most k + 1 of them. -/
def grpF : Nat → Nat → List Int
  | 0, m => [(m : Int)]
  | k + 1, m => if m < 128 then [(m : Int)] else (((m % 128 : Nat) : Int) + 128) :: grpF k (m / 128)
def grp (m : Nat) : List Int := grpF 9 m
theorem grpF_one {k m : Nat} (h : m < 128) : grpF k m = [(m : Int)] := by
  cases k with
  | zero => rfl
  | succ k => unfold grpF; rw [if_pos h]
theorem grpF_more {k m : Nat} (h : ¬ m < 128) : grpF (k + 1) m = (((m % 128 : Nat) : Int) + 128) :: grpF k (m / 128) := by
  rw [grpF, if_neg h]
theorem grpF_len (k m : Nat) : (grpF k m).length ≤ k + 1 ∧ 1 ≤ (grpF k m).length := by
  induction k generalizing m with
  | zero => simp [grpF]
  | succ k ih =>
    unfold grpF
    split
    · simp
    · have := ih (m / 128)
      simp only [List.length_cons]; omega
theorem grp_len (m : Nat) : (grp m).length ≤ 10 ∧ 1 ≤ (grp m).length := grpF_len 9 m
/-- A number without its sign. -/
def fold (x : Int) : Nat := if x < 0 then (2 * (-x - 1) + 1).toNat else (2 * x).toNat

theorem block_cellv {w : World} {b : Nat} {x : Value} {t : TypeId} (h : w.heap[b]? = some (.cells #[x] t (0, 0))) : w.cell? ⟨b, 0, none⟩ = some x := (block_cell h).1
set_option maxRecDepth 100000 in
theorem cut1_any (w : World) (B m : Nat) (h : w.heap[B]? = some (.cells #[.int .u64 (m : Int)] 23 (0, 0))) (hm : m < 18446744073709551616) :
    Calls Tryz.prog 151 #[.pointer (some ⟨B, 0, none⟩)] w fun e w' => e = .returned (.int .u8 ((m % 128 : Nat) : Int)) ∧ w' = w.setCell ⟨B, 0, none⟩ (.int .u64 ((m / 128 : Nat) : Int)) := by
  obtain ⟨c1, f1⟩ := block_cell h
  go_enter Tryz.func151, Tryz.ntmps151
  go_wp2
  go_ret
  exact ⟨rfl, rfl⟩

/-- The groups while they are made. -/
def GrpI (w : World) (n : Nat) (k : Nat) (v : Value) (wx : World) : Prop :=
  ∃ (m : Nat) (acc : List Int), wx.heap[w.heap.size]? = some (.cells #[.int .u64 (m : Int)] 23 (0, 0)) ∧ wx.ownsRow (w.heap.size + 1) 5 1 v acc.length (bv acc) ∧ Below w.heap.size w wx ∧
    acc ++ grpF k m = grp n ∧ m < 2 * 128 ^ k ∧ acc.length + k = 9
theorem cell_one_new (w : World) (x : Value) (t : TypeId) : ∀ j u, [x][j]? = some u → (w.alloc (.cells #[x] t)).cell? ((⟨w.heap.size, 0, none⟩ : Addr).add j) = some u :=
  World.news_of_block (heap_alloc_new w _)
theorem made10 : ∀ W : World, (Instr.makeSlice 32 (.int .i64 0) (.int .i64 10)).run Tryz.prog W = .ok (.slice (some ⟨W.heap.size, 0, none⟩) 0 10) (W.alloc (.cells #[.int .u8 0, .int .u8 0, .int .u8 0, .int .u8 0, .int .u8 0, .int .u8 0, .int .u8 0, .int .u8 0, .int .u8 0, .int .u8 0] 5)) := fun _ => by kernel_rfl
/-- One group more. -/
theorem grp_step {k m : Nat} {acc : List Int} {n : Nat} (h : acc ++ grpF (k + 1) m = grp n) (hm : ¬ m < 128) : (acc ++ [((m % 128 : Nat) : Int) + 128]) ++ grpF k (m / 128) = grp n := by
  rw [← h, grpF_more hm]; simp
set_option maxRecDepth 100000 in
set_option maxHeartbeats 4000000 in
theorem groups_any (w : World) (n : Nat) (hn : n < 18446744073709551616) :
    Calls Tryz.prog 124 #[.int .u64 (n : Int)] w fun e w' => ∃ v, e = .returned v ∧ w'.ownsRow w.heap.size 5 1 v (grp n).length (bv (grp n)) ∧ Below w.heap.size w w' := by
  obtain ⟨i0, hi0, hz0, hz1, hz2⟩ := info_parts u8Inf
  have hmk := made10
  have hmf : ∀ (fn : Fn) (first cap : Array Value) (w : World), (Instr.makeFunc fn first cap).run Tryz.prog w = .ok (.func fn first cap) w := fun _ _ _ _ => rfl
  have h0 : Hid (GrpI w n 9 (.slice (some ⟨w.heap.size + 1, 0, none⟩) 0 10) ((w.alloc (.cells #[.int .u64 (n : Int)] 23)).alloc (.cells #[.int .u8 0, .int .u8 0, .int .u8 0, .int .u8 0, .int .u8 0, .int .u8 0, .int .u8 0, .int .u8 0, .int .u8 0, .int .u8 0] 5))) := by
    refine ⟨n, [], block_old (block_new _ _) _, ?_, ((Below.refl _ _).alloc (Nat.le_refl _) _).alloc (by simp) _, rfl, by omega, rfl⟩
    have := World.ownsRow_made (base := w.heap.size + 1) (e := 5) (size := 1) (w.alloc (.cells #[.int .u64 (n : Int)] 23)) #[.int .u8 0, .int .u8 0, .int .u8 0, .int .u8 0, .int .u8 0, .int .u8 0, .int .u8 0, .int .u8 0, .int .u8 0, .int .u8 0] 10 (by simp) (by decide) rfl
    simpa [bv] using this
  go_enter Tryz.func124, Tryz.ntmps124
  go_wp2
  go_loopg [4] 9 (fun k s4 wx => Hid (GrpI w n k s4 wx))
  case atStart => exact h0
  case round =>
    clear h0
    have hi := hrel.out
    clear hrel
    obtain ⟨m, acc, hb, hown, hbel, heq, hm, hacc⟩ := hi
    obtain ⟨c1, f1⟩ := block_cell hb
    have hm64 : m < 18446744073709551616 := by
      have : (128 : Nat) ^ gk ≤ 128 ^ 9 := Nat.pow_le_pow_right (by decide) (by omega)
      have e9 : (128 : Nat) ^ 9 = 9223372036854775808 := by decide
      omega
    have HC := Lib.hid (cut1_any wr w.heap.size m hb hm64)
    have hz := hbel.size
    have HO := Lib.hid hown
    have HE := Lib.hid heq
    have HB := Lib.hid hbel
    have HBB := Lib.hid hb
    have HM := Lib.hid hm
    have hlt : w.heap.size < wr.heap.size := (Array.getElem?_eq_some_iff.1 hb).1
    obtain ⟨c, hc⟩ : ∃ c, c = m % 128 := ⟨_, rfl⟩
    obtain ⟨m2, hm2⟩ : ∃ m2, m2 = m / 128 := ⟨_, rfl⟩
    rw [← hc, ← hm2] at HC
    have hc2 : c < 128 := by omega
    have O1 : Hid ((wr.setCell ⟨w.heap.size, 0, none⟩ (.int .u64 (m2 : Int))).ownsRow (w.heap.size + 1) 5 1 u4 acc.length (bv acc)) := ownsRow_kept hown (fun g hg => Below.heap_setCell _ _ _ _ (by have := (hown.lt g hg).1; show g ≠ w.heap.size; omega))
    have hsz : (wr.setCell ⟨w.heap.size, 0, none⟩ (.int .u64 (m2 : Int))).heap.size = wr.heap.size := by simp [World.setCell]
    have B1 : Hid (Below w.heap.size w (wr.setCell ⟨w.heap.size, 0, none⟩ (.int .u64 (m2 : Int)))) := hbel.setCell (p := ⟨w.heap.size, 0, none⟩) (Nat.le_refl _) _
    have HB1 : Hid ((wr.setCell ⟨w.heap.size, 0, none⟩ (.int .u64 (m2 : Int))).heap[w.heap.size]? = some (.cells #[.int .u64 (m2 : Int)] 23 (0, 0))) := block_put hb _
    have HSZ := Lib.hid hsz
    have HF : Hid ((m < 128 → grp n = acc ++ [(c : Int)]) ∧ (¬ m < 128 → ∃ k, gk = k + 1 ∧ (acc ++ [(c : Int) + 128]) ++ grpF k m2 = grp n ∧ m2 < 2 * 128 ^ k ∧ (acc ++ [(c : Int) + 128]).length + k = 9)) := by
      refine ⟨fun h => ?_, fun h => ?_⟩
      · rw [← heq, grpF_one h, hc, Nat.mod_eq_of_lt h]
      · cases gk with
        | zero => omega
        | succ k => exact ⟨k, rfl, by rw [hc, hm2]; exact grp_step heq h, by rw [hm2]; rw [Nat.pow_succ] at hm; omega, by simp; omega⟩
    have hal : acc.length ≤ 9 := by omega
    clear hown hbel heq hb hsz hc hm2 hm hacc
    by_cases hbig : m < 128
    · have t1 : ¬ (128 : Int) ≤ (m : Int) := by omega
      have HG := Lib.hid (HF.out.1 hbig)
      go_wp2_with (first
        | (at_builtin; refine wpList_append_lies _ rfl _ _ 32 rfl (w.heap.size + 1) 5 i0 _ 1 1 Tryz.underlying32 hi0 hz0 hz1 hz2 rfl (by decide) _ _ _ rfl (O1.out.alloc _) ⟨wr.heap.size, 0, none⟩ 1 1 [.int .u8 (c : Int)] rfl rfl (by rw [← HSZ.out]; exact cell_one_new _ _ _) (by simp [Value.oneCell']) (by decide) (by unfold maxLen; omega) (by omega) (by simp; omega) _ rfl ?_; intro gg cp w2 hown2 hgrow hat hlt2)
        | (go_at_call 151; refine HC.out.mono ?_; rintro e w1 ⟨rfl, rfl⟩))
      go_ret
      have HB2 : Hid (Below w.heap.size w w2) := (B1.out.alloc (by rw [HSZ.out]; omega) _).grown hgrow (by simp [World.setCell]; omega) (fun j hj => by have := (O1.out.lt j hj).1; omega)
      refine ⟨_, rfl, ?_, HB2.out⟩
      rw [HG.out, List.length_append, bv_app]
      exact ownsRow_base hown2 (Nat.le_succ _)
    · have t1 : (128 : Int) ≤ (m : Int) := by omega
      obtain ⟨k, rfl, hk1, hk2, hk3⟩ := HF.out.2 hbig
      have HK1 := Lib.hid hk1
      have HK2 := Lib.hid hk2
      have HK3 := Lib.hid hk3
      clear hk1 hk2 hk3
      go_wp2_with (first
        | (at_builtin; refine wpList_append_lies _ rfl _ _ 32 rfl (w.heap.size + 1) 5 i0 _ 1 1 Tryz.underlying32 hi0 hz0 hz1 hz2 rfl (by decide) _ _ _ rfl (O1.out.alloc _) ⟨wr.heap.size, 0, none⟩ 1 1 [.int .u8 ((c : Int) + 128)] rfl rfl (by rw [← HSZ.out]; exact cell_one_new _ _ _) (by simp [Value.oneCell']) (by decide) (by unfold maxLen; omega) (by omega) (by simp; omega) _ rfl ?_; intro gg cp w2 hown2 hgrow hat hlt2)
        | (go_at_call 151; refine HC.out.mono ?_; rintro e w1 ⟨rfl, rfl⟩))
      have HB2 : Hid (Below w.heap.size w w2) := (B1.out.alloc (by rw [HSZ.out]; omega) _).grown hgrow (by simp [World.setCell]; omega) (fun j hj => by have := (O1.out.lt j hj).1; omega)
      have HN : Hid (w2.heap[w.heap.size]? = some (.cells #[.int .u64 (m2 : Int)] 23 (0, 0))) := (hgrow.block _ (by simp [World.setCell]; omega) (fun e => by have := (O1.out.lt _ e.symm).1; omega)).trans (block_old HB1.out _)
      have HO2 : Hid (w2.ownsRow (w.heap.size + 1) 5 1 (.slice (some ⟨gg, 0, none⟩) (acc.length + 1) cp) (acc ++ [(c : Int) + 128]).length (bv (acc ++ [(c : Int) + 128]))) := by
        show World.ownsRow _ _ _ _ _ _ _
        rw [List.length_append, bv_app]
        exact hown2
      go_roundg k
      case measure => omega
      case rel => exact ⟨m2, _, HN.out, HO2.out, HB2.out, HK1.out, HK2.out, HK3.out⟩
theorem not64 (x : Int) (h1 : -9223372036854775808 ≤ x) (h2 : x < 9223372036854775808) : bits .xor .i64 (-1) x = -1 - x := by
  show IntKind.i64.wrap ((BitVec.ofInt 64 (-1) ^^^ BitVec.ofInt 64 x).toNat : Int) = _
  have h3 : BitVec.ofInt 64 (-1) = BitVec.allOnes 64 := by decide
  rw [h3, BitVec.allOnes_xor, BitVec.toNat_not, BitVec.toNat_ofInt]
  simp [IntKind.wrap, IntKind.bits, IntKind.signed]
  omega
end Go.Proofs.YtjijgoflbjbnfaaGreat.Oc

namespace Go.Proofs.YtjijgoflbjbnfaaGreat.Oc
open Go.RowKit

/-- The bytes behind a call, if there was no mistake. -/
def addB (er : Int) (l bs : List Int) : List Int := if er = 0 then l ++ bs else l
theorem addB_no (l bs : List Int) : addB 0 l bs = l ++ bs := by unfold addB; rw [if_pos rfl]
theorem addB_yes {er : Int} (h : ¬ er = 0) (l bs : List Int) : addB er l bs = l := by unfold addB; rw [if_neg h]
theorem addB_nil (er : Int) (l : List Int) : addB er l [] = l := by unfold addB; split <;> simp
theorem addB_addB (er : Int) (l bs cs : List Int) : addB er (addB er l bs) cs = addB er l (bs ++ cs) := by unfold addB; split <;> simp
/-- The first mistake. -/
def errB (er x : Int) : Int := if er = 0 then x else er
theorem errB_no (x : Int) : errB 0 x = x := rfl
theorem errB_yes {er : Int} (h : ¬ er = 0) (x : Int) : errB er x = er := by unfold errB; rw [if_neg h]
/-- A slice that holds bytes at the head of a block. -/
def Src (w : World) (u : Value) (bs : List Int) : Prop :=
  ∃ g cap, u = .slice (some ⟨g, 0, none⟩) bs.length cap ∧ ∀ j x, (bv bs)[j]? = some x → w.cell? ((⟨g, 0, none⟩ : Addr).add j) = some x
theorem Src.of_own {w : World} {base : Nat} {u : Value} {bs : List Int} (h : w.ownsRow base 5 1 u bs.length (bv bs)) (hb : 1 ≤ bs.length) : Src w u bs := by
  obtain ⟨g, cap, rfl, _, _⟩ := h.form (by omega)
  exact ⟨g, cap, rfl, h.cells (g := g) rfl⟩
theorem Src.kept {w w' : World} {u : Value} {bs : List Int} (h : Src w u bs) (hb : Below w.heap.size w w') : Src w' u bs := by
  obtain ⟨g, cap, rfl, h1⟩ := h
  refine ⟨g, cap, rfl, fun j x hx => ?_⟩
  have h2 := h1 j x hx
  exact (hb.cell (World.block_lt_of_cell? _ _ h2)).trans h2

set_option maxRecDepth 100000 in
theorem takes_nil (w : World) (n : Int) : Calls Tryz.prog 150 #[.pointer none, .int .i64 n] w fun e w' => e = .returned (.bool false) ∧ w = w' := by
  go_enter Tryz.func150, Tryz.ntmps150
  go_wp2
  go_ret
  exact ⟨rfl, rfl⟩
set_option maxRecDepth 100000 in
theorem takes_bad (w : World) (b : Nat) (er n : Int) (l : List Int) (v : Value) (h : WrR w b er l v) (he : ¬ er = 0) : Calls Tryz.prog 150 #[.pointer (some ⟨b, 0, none⟩), .int .i64 n] w fun e w' => e = .returned (.bool false) ∧ w = w' := by
  have HF := Lib.hid (failed_yes w b er he (block_cell2 h.1).1.1)
  go_enter Tryz.func150, Tryz.ntmps150
  go_wp2_with (go_at_call 143; refine HF.out.mono ?_; rintro e w1 ⟨rfl, rfl⟩)
  go_ret
  exact ⟨rfl, rfl⟩
theorem WrR.shape {w : World} {b : Nat} {er : Int} {l : List Int} {v : Value} (h : WrR w b er l v) : ∃ A cap, v = .slice A l.length cap := by
  rcases h.2.1.2 with ⟨h1, h2⟩ | ⟨g, cap, _, h1, _⟩
  · exact ⟨none, 0, by rw [h1, h2]⟩
  · exact ⟨_, cap, h1⟩
set_option maxRecDepth 100000 in
theorem takes_ok (w : World) (b n : Nat) (l : List Int) (v : Value) (h : WrR w b 0 l v) (hn : l.length + n ≤ 1048576) : Calls Tryz.prog 150 #[.pointer (some ⟨b, 0, none⟩), .int .i64 (n : Int)] w fun e w' => e = .returned (.bool true) ∧ w = w' := by
  have HF := Lib.hid (failed_no w b (block_cell2 h.1).1.1)
  obtain ⟨A, cap, rfl⟩ := h.shape
  obtain ⟨⟨c1, c2⟩, _⟩ := block_cell2 h.1
  obtain ⟨m, hm⟩ : ∃ m, m = l.length := ⟨_, rfl⟩
  rw [← hm] at c2 hn
  have t1 : ¬ (1048576 : Int) - (m : Int) < (n : Int) := by omega
  have hmm := h.2.2
  have t2 : m ≤ 1048576 := by omega
  clear hm hmm h
  go_enter Tryz.func150, Tryz.ntmps150
  go_wp2_with (go_at_call 143; refine HF.out.mono ?_; rintro e w1 ⟨rfl, rfl⟩)
  go_ret
  exact ⟨rfl, rfl⟩
set_option maxRecDepth 100000 in
theorem stop_nil (w : World) (x : Int) : Calls Tryz.prog 122 #[.pointer none, .int .i64 x] w fun e w' => e = .returned (.pointer none) ∧ w = w' := by
  go_enter Tryz.func122, Tryz.ntmps122
  go_wp2
  go_ret
  exact ⟨rfl, rfl⟩
set_option maxRecDepth 100000 in
theorem stop_any (w : World) (b : Nat) (er x : Int) (l : List Int) (v : Value) (h : WrR w b er l v) : Calls Tryz.prog 122 #[.pointer (some ⟨b, 0, none⟩), .int .i64 x] w fun e w' => e = .returned (.pointer (some ⟨b, 0, none⟩)) ∧ WrTo b v w (errB er x) [] w' := by
  obtain ⟨⟨c1, c2⟩, f1, f2⟩ := block_cell2 h.1
  by_cases he : er = 0
  · subst he
    rw [errB_no]
    have HF := Lib.hid (fail_set w b x c1 f1)
    obtain ⟨s1, s2⟩ := wr_set1 h x
    obtain ⟨s3, s4⟩ := wr_clear s1
    have HT : Hid (∀ w', w' = (w.setCell ⟨b, 0, none⟩ (.int .i64 x)).setCell ⟨b, 1, none⟩ (.slice none 0 0) → WrTo b v w x [] w') := fun w' e => by subst e; exact ⟨_, s3, s2.trans s4⟩
    obtain ⟨⟨d1, d2⟩, g1, g2⟩ := block_cell2 s1.1
    clear h c1 c2 f1 f2 s1 s2 s3 s4
    go_enter Tryz.func122, Tryz.ntmps122
    go_wp2_with (go_at_call 142; refine HF.out.mono ?_; rintro e w1 ⟨rfl, rfl⟩)
    go_ret
    exact ⟨rfl, HT.out _ rfl⟩
  · rw [errB_yes he]
    have HF := Lib.hid (fail_no w b er x he c1)
    obtain ⟨s3, s4⟩ := wr_clear h
    have HT : Hid (∀ w', w' = w.setCell ⟨b, 1, none⟩ (.slice none 0 0) → WrTo b v w er [] w') := fun w' e => by subst e; exact ⟨_, s3, s4⟩
    clear h s3 s4
    go_enter Tryz.func122, Tryz.ntmps122
    go_wp2_with (go_at_call 142; refine HF.out.mono ?_; rintro e w1 ⟨rfl, rfl⟩)
    go_ret
    exact ⟨rfl, HT.out _ rfl⟩
set_option maxRecDepth 100000 in
theorem takes_big (w : World) (b n : Nat) (l : List Int) (v : Value) (h : WrR w b 0 l v) (hn : 1048576 < l.length + n) (_hn2 : n < 9223372036854775808) : Calls Tryz.prog 150 #[.pointer (some ⟨b, 0, none⟩), .int .i64 (n : Int)] w fun e w' => e = .returned (.bool false) ∧ WrTo b v w 2 [] w' := by
  have HF := Lib.hid (failed_no w b (block_cell2 h.1).1.1)
  have HS := Lib.hid (stop_any w b 0 2 l v h)
  obtain ⟨A, cap, rfl⟩ := h.shape
  obtain ⟨⟨c1, c2⟩, _⟩ := block_cell2 h.1
  obtain ⟨m, hm⟩ : ∃ m, m = l.length := ⟨_, rfl⟩
  have hmm := h.2.2
  rw [← hm] at c2 hn HS hmm ⊢
  have t1 : (1048576 : Int) - (m : Int) < (n : Int) := by omega
  clear hm h
  go_enter Tryz.func150, Tryz.ntmps150
  go_wp2_with (first
    | (go_at_call 143; refine HF.out.mono ?_; rintro e w1 ⟨rfl, rfl⟩)
    | (go_at_call 122; refine HS.out.mono ?_; rintro e w1 ⟨rfl, h1⟩; have H1 := Lib.hid h1; clear h1))
  go_ret
  exact ⟨rfl, H1.out⟩

set_option maxRecDepth 100000 in
theorem write_nil (w : World) (u : Value) (bs : List Int) (hu : Src w u bs) : Calls Tryz.prog 123 #[.pointer none, u] w fun e w' => e = .returned (.pointer none) ∧ w = w' := by
  obtain ⟨g, cap, rfl, _⟩ := hu
  have HT := Lib.hid (fun n => takes_nil w n)
  go_enter Tryz.func123, Tryz.ntmps123
  go_wp2_with (go_at_call 150; refine (HT.out _).mono ?_; rintro e w1 ⟨rfl, rfl⟩)
  go_ret
  exact ⟨rfl, rfl⟩
set_option maxRecDepth 100000 in
theorem write_any (w : World) (b : Nat) (er : Int) (l bs : List Int) (v u : Value) (h : WrR w b er l v) (hu : Src w u bs) (hb : 1 ≤ bs.length) (hr : er = 0 → l.length + bs.length ≤ 1048576) :
    Calls Tryz.prog 123 #[.pointer (some ⟨b, 0, none⟩), u] w fun e w' => e = .returned (.pointer (some ⟨b, 0, none⟩)) ∧ WrTo b v w er (addB er l bs) w' := by
  obtain ⟨g, cap, rfl, hcell⟩ := hu
  obtain ⟨i0, hi0, hz0, hz1, hz2⟩ := info_parts u8Inf
  obtain ⟨⟨c1, c2⟩, f1, f2⟩ := block_cell2 h.1
  by_cases he : er = 0
  · subst he
    have hr0 := hr rfl
    clear hr
    rw [addB_no]
    have HT := Lib.hid (takes_ok w b bs.length l v h hr0)
    have HO := Lib.hid h.2.1
    have HW := Lib.hid h
    have HC := Lib.hid hcell
    have hlt := h.lt
    have hll := h.2.2
    obtain ⟨n, hn⟩ : ∃ n, n = bs.length := ⟨_, rfl⟩
    have HN := Lib.hid hn
    rw [← hn] at hr0 hb HT ⊢
    clear h hcell hn
    go_enter Tryz.func123, Tryz.ntmps123
    go_wp2_with (first
      | (at_builtin; refine wpList_append_lies _ rfl _ _ 32 rfl (b + 1) 5 i0 _ 1 1 Tryz.underlying32 hi0 hz0 hz1 hz2 rfl (by decide) _ _ _ rfl HO.out ⟨g, 0, none⟩ n cap (bv bs) rfl (by rw [bv_len, HN.out]; omega) HC.out (bv_one _) (by omega) (by unfold maxLen; omega) (by omega) (by omega) _ rfl ?_; intro gg cp w2 hown2 hgrow hat hlt2
         have hb2 : w2.heap[b]? = some (.cells #[.int .i64 0, v] 146 (0, 0)) := (hgrow.block b hlt (fun e => by have := (HO.out.lt b e.symm).1; omega)).trans HW.out.1
         obtain ⟨⟨d1, d2⟩, g1, g2⟩ := block_cell2 hb2
         have HB2 := Lib.hid hb2
         have HOW := Lib.hid hown2
         have HG := Lib.hid hgrow
         have HA := Lib.hid hat
         clear hb2 hown2 hgrow hat)
      | (go_at_call 150; refine HT.out.mono ?_; rintro e w1 ⟨rfl, rfl⟩))
    go_ret
    have fin := wr_grown HW.out (bs := bs) (by rw [← HN.out]; exact HOW.out) HG.out (by
      rcases HA.out with h3 | h3
      · exact .inr (.inl h3.symm)
      · exact .inr (.inr ⟨gg, rfl, by omega⟩)) (by rw [← HN.out]; exact hr0)
    exact ⟨rfl, _, fin.1, fin.2⟩
  · rw [addB_yes he]
    have HT := Lib.hid (takes_bad w b er bs.length l v h he)
    have HW := Lib.hid (WrTo.same h (Below.refl _ _))
    clear h hcell hr
    go_enter Tryz.func123, Tryz.ntmps123
    go_wp2_with (go_at_call 150; refine HT.out.mono ?_; rintro e w1 ⟨rfl, rfl⟩)
    go_ret
    exact ⟨rfl, HW.out⟩

/-! ### Count, Number, Byte -/
set_option maxRecDepth 100000 in
theorem count_nil (w : World) (x : Int) (h1 : -9223372036854775808 ≤ x) (h2 : x < 9223372036854775808) : Calls Tryz.prog 86 #[.pointer none, .int .i64 x] w fun e w' => e = .returned (.pointer none) ∧ Below w.heap.size w w' := by
  by_cases hx : x < 0
  · have HS := Lib.hid (stop_nil w 1)
    go_enter Tryz.func86, Tryz.ntmps86
    go_wp2_with (go_at_call 122; refine HS.out.mono ?_; rintro e w1 ⟨rfl, rfl⟩)
    go_ret
    exact ⟨rfl, Below.refl _ _⟩
  · obtain ⟨n, rfl⟩ : ∃ n : Nat, x = (n : Int) := ⟨x.toNat, by omega⟩
    have HG := Lib.hid (groups_any w n (by omega))
    go_enter Tryz.func86, Tryz.ntmps86
    go_wp2_with (first
      | (go_at_call 123; refine (write_nil w1 u (grp n) (Src.of_own O1.out (grp_len n).2)).mono ?_; rintro e w2 ⟨rfl, rfl⟩)
      | (go_at_call 124; refine HG.out.mono ?_; rintro e w1 ⟨u, rfl, hown, hb1⟩; have O1 := Lib.hid hown; have B1 := Lib.hid hb1; clear hown hb1))
    go_ret
    exact ⟨rfl, B1.out⟩
set_option maxRecDepth 100000 in
theorem count_neg (w : World) (b : Nat) (er x : Int) (l : List Int) (v : Value) (h : WrR w b er l v) (hx : x < 0) : Calls Tryz.prog 86 #[.pointer (some ⟨b, 0, none⟩), .int .i64 x] w fun e w' => e = .returned (.pointer (some ⟨b, 0, none⟩)) ∧ WrTo b v w (errB er 1) [] w' := by
  have HS := Lib.hid (stop_any w b er 1 l v h)
  go_enter Tryz.func86, Tryz.ntmps86
  go_wp2_with (go_at_call 122; refine HS.out.mono ?_; rintro e w1 ⟨rfl, h1⟩; have H1 := Lib.hid h1; clear h1)
  go_ret
  exact ⟨rfl, H1.out⟩
set_option maxRecDepth 100000 in
theorem count_any (w : World) (b : Nat) (er : Int) (n : Nat) (l : List Int) (v : Value) (h : WrR w b er l v) (hn : n < 9223372036854775808) (hr : er = 0 → l.length + (grp n).length ≤ 1048576) : Calls Tryz.prog 86 #[.pointer (some ⟨b, 0, none⟩), .int .i64 (n : Int)] w fun e w' => e = .returned (.pointer (some ⟨b, 0, none⟩)) ∧ WrTo b v w er (addB er l (grp n)) w' := by
  have HG := Lib.hid (groups_any w n (by omega))
  have HW := Lib.hid h
  have HR := Lib.hid hr
  clear h hr
  go_enter Tryz.func86, Tryz.ntmps86
  go_wp2_with (first
    | (go_at_call 123; refine (write_any w1 b er l (grp n) v u (HW.out.below B1.out) (Src.of_own O1.out (grp_len n).2) (grp_len n).2 HR.out).mono ?_; rintro e w2 ⟨rfl, h2⟩; have H2 := Lib.hid (WrTo.trans (WFr.of_below B1.out) h2); clear h2)
    | (go_at_call 124; refine HG.out.mono ?_; rintro e w1 ⟨u, rfl, hown, hb1⟩; have O1 := Lib.hid hown; have B1 := Lib.hid hb1; clear hown hb1))
  go_ret
  exact ⟨rfl, H2.out⟩
theorem fold_lt {x : Int} (h1 : -9223372036854775808 ≤ x) (h2 : x < 9223372036854775808) : fold x < 18446744073709551616 := by unfold fold; split <;> omega
theorem src_one (w : World) (x : Int) : Src (w.alloc (.cells #[.int .u8 x] 5)) (.slice (some ⟨w.heap.size, 0, none⟩) 1 1) [x] := ⟨_, 1, rfl, by simpa [bv] using cell_one_new w (.int .u8 x) 5⟩
end Go.Proofs.YtjijgoflbjbnfaaGreat.Oc

namespace Go.Proofs.YtjijgoflbjbnfaaGreat.Oc
open Go.RowKit

/-- The k lowest bytes of a word, the highest first. -/
def wordF : Nat → Nat → List Int
  | 0, _ => []
  | k + 1, x => ((x / 256 ^ k % 256 : Nat) : Int) :: wordF k x
theorem wordF_len (k x : Nat) : (wordF k x).length = k := by
  induction k with
  | zero => rfl
  | succ k ih => simp [wordF, ih]
/-- The word's bytes while they are written: k are to come. -/
def WideI (w : World) (b : Nat) (er : Int) (v : Value) (l all : List Int) (lo k : Nat) (wx : World) : Prop :=
  ∃ acc, WrTo b v w er (addB er l acc) wx ∧ acc ++ wordF k lo = all
theorem WideI.block {w wx : World} {b : Nat} {er : Int} {v : Value} {l all : List Int} {lo k a : Nat} {o : Obj} (h : WideI w b er v l all lo k wx) (ha : w.heap[a]? = some o) (hb : a ≠ b) (hv : v.ownBlock ≠ some a) : wx.heap[a]? = some o := by
  obtain ⟨acc, ⟨v', _, h2⟩, _⟩ := h
  exact (h2.block a (Array.getElem?_eq_some_iff.1 ha).1 hb hv).trans ha
end Go.Proofs.YtjijgoflbjbnfaaGreat.Oc

namespace Go.Proofs.YtjijgoflbjbnfaaGreat.Oc
open Go.RowKit

/-- Ahead of the one text, or behind it. -/
def TextI (w : World) (P : World → Prop) (k : Nat) (i : Int) (wx : World) : Prop := (k = 1 ∧ i = 0 ∧ wx = w) ∨ (k = 0 ∧ i = 1 ∧ P wx)
theorem WFr.at {b : Nat} {v v' : Value} {w w' : World} (h : WFr b v v' w w') {a : Nat} {o : Obj} (ha : w.heap[a]? = some o) (hb : a ≠ b) (hv : v.ownBlock ≠ some a) : w'.heap[a]? = some o :=
  (h.block a (Array.getElem?_eq_some_iff.1 ha).1 hb hv).trans ha
set_option maxRecDepth 100000 in
set_option maxHeartbeats 4000000 in
theorem text_ok (w : World) (b g : Nat) (s : ByteArray) (l : List Int) (v : Value) (h : WrR w b 0 l v) (hg : w.heap[g]? = some (.cells #[.string s] 9 (0, 0))) (hr : l.length + (grp s.size).length + s.size ≤ 1048576) :
    Calls Tryz.prog 128 #[.pointer (some ⟨b, 0, none⟩), .slice (some ⟨g, 0, none⟩) 1 1] w fun e w' => e = .returned (.pointer (some ⟨b, 0, none⟩)) ∧ WrTo b v w 0 (l ++ (grp s.size ++ sb s)) w' := by
  obtain ⟨c1, _⟩ := block_cell hg
  obtain ⟨n, hn⟩ : ∃ n, n = s.size := ⟨_, rfl⟩
  have hn2 : s.size = n := hn.symm
  have HC := Lib.hid (count_any w b 0 n l v h (by omega) (fun _ => by rw [hn]; omega))
  have HR : Hid (l.length + (grp n).length + n ≤ 1048576) := by rw [hn]; exact hr
  have hnn : n ≤ 1048576 := by omega
  have HI : Hid (TextI w (fun wx => WrTo b v w 0 (l ++ (grp n ++ sb s)) wx) 1 0 w) := .inl ⟨rfl, rfl, rfl⟩
  rw [hn2]
  clear h hg hr hn
  go_enter Tryz.func128, Tryz.ntmps128
  go_wp2
  go_loopg [9] 1 (fun k s9 wx => ∃ i : Int, s9 = .int .i64 i ∧ Hid (TextI w (fun wx => WrTo b v w 0 (l ++ (grp n ++ sb s)) wx) k i wx))
  case atStart => exact ⟨0, rfl, HI⟩
  case round =>
    clear HI
    obtain ⟨i, rfl, hi⟩ := hrel
    rcases hi.out with ⟨rfl, rfl, rfl⟩ | ⟨rfl, rfl, hp⟩
    · clear hi
      go_wp2_with (first
        | (at_builtin; refine Lib.wpList_append_run _ rfl _ _ _ _ rfl _ _ rfl rfl _ _ hrun ?_)
        | (go_at_call 150; refine HT.out.mono ?_; rintro e w3 ⟨rfl, rfl⟩)
        | (go_at_call 86; refine HC.out.mono ?_; rintro e w2 ⟨rfl, v2, hw2, hf2⟩
           rw [addB_no] at hw2
           have HT := Lib.hid (takes_ok w2 b n _ v2 hw2 (by rw [List.length_append]; exact HR.out))
           have HW2 := Lib.hid hw2
           have HF2 := Lib.hid hf2
           obtain ⟨v4, w4, hrun, ho4, hg4, hn4⟩ := app_str w2 (b + 1) v2 _ hw2.2.1 s (by rw [List.length_append, hn2]; exact HR.out) hw2.lt
           have hs4 := wr_grown hw2 ho4 hg4 hn4 (by rw [sb_len, List.length_append, hn2]; exact HR.out)
           obtain ⟨A4, n4, c4, rfl⟩ : ∃ A n c, v4 = Value.slice A n c := by obtain ⟨A, c, h⟩ := WrR.shape hs4.1; exact ⟨A, _, c, h⟩
           have hb4 : w4.heap[b]? = some (.cells #[.int .i64 0, v2] 146 (0, 0)) := (hg4.block b hw2.lt (fun e => by have := (hw2.2.1.lt b e.symm).1; omega)).trans hw2.1
           obtain ⟨⟨d1, d2⟩, _⟩ := block_cell2 hw2.1
           obtain ⟨_, _, e2⟩ := block_cell2 hb4
           have HS4 := Lib.hid hs4
           clear hw2 hf2 ho4 hg4 hn4 hs4 hb4))
      go_roundg 0
      case measure => omega
      case rel => exact ⟨1, rfl, .inr ⟨rfl, rfl, by rw [← List.append_assoc]; exact ⟨_, HS4.out.1, HF2.out.trans HS4.out.2⟩⟩⟩
    · have HP := Lib.hid hp
      clear hi hp
      go_wp2
      go_ret
      exact ⟨rfl, HP.out⟩
set_option maxRecDepth 100000 in
set_option maxHeartbeats 4000000 in
theorem text_bad (w : World) (b g : Nat) (er : Int) (s : ByteArray) (l : List Int) (v : Value) (h : WrR w b er l v) (he : ¬ er = 0) (hg : w.heap[g]? = some (.cells #[.string s] 9 (0, 0))) (hs : s.size ≤ 1000000) :
    Calls Tryz.prog 128 #[.pointer (some ⟨b, 0, none⟩), .slice (some ⟨g, 0, none⟩) 1 1] w fun e w' => e = .returned (.pointer (some ⟨b, 0, none⟩)) ∧ WrTo b v w er l w' := by
  obtain ⟨c1, _⟩ := block_cell hg
  obtain ⟨n, hn⟩ : ∃ n, n = s.size := ⟨_, rfl⟩
  have hn2 : s.size = n := hn.symm
  have HC := Lib.hid (count_any w b er n l v h (by omega) (fun e => absurd e he))
  have HI : Hid (TextI w (fun wx => WrTo b v w er l wx) 1 0 w) := .inl ⟨rfl, rfl, rfl⟩
  clear h hg hs hn
  go_enter Tryz.func128, Tryz.ntmps128
  go_wp2
  go_loopg [9] 1 (fun k s9 wx => ∃ i : Int, s9 = .int .i64 i ∧ Hid (TextI w (fun wx => WrTo b v w er l wx) k i wx))
  case atStart => exact ⟨0, rfl, HI⟩
  case round =>
    clear HI
    obtain ⟨i, rfl, hi⟩ := hrel
    rcases hi.out with ⟨rfl, rfl, rfl⟩ | ⟨rfl, rfl, hp⟩
    · clear hi
      go_wp2_with (first
        | (go_at_call 150; refine HT.out.mono ?_; rintro e w3 ⟨rfl, rfl⟩)
        | (go_at_call 86; refine HC.out.mono ?_; rintro e w2 ⟨rfl, hw2⟩
           rw [addB_yes he] at hw2
           have HW2 := Lib.hid hw2
           obtain ⟨v2, hw3, _⟩ := hw2
           have HT := Lib.hid (takes_bad w2 b er n _ v2 hw3 he)
           clear hw3))
      go_roundg 0
      case measure => omega
      case rel => exact ⟨1, rfl, .inr ⟨rfl, rfl, HW2.out⟩⟩
    · have HP := Lib.hid hp
      clear hi hp
      go_wp2
      go_ret
      exact ⟨rfl, HP.out⟩
set_option maxRecDepth 100000 in
set_option maxHeartbeats 4000000 in
theorem text_big (w : World) (b g : Nat) (s : ByteArray) (l : List Int) (v : Value) (h : WrR w b 0 l v) (hg : w.heap[g]? = some (.cells #[.string s] 9 (0, 0))) (hr : l.length + (grp s.size).length ≤ 1048576) (hr2 : 1048576 < l.length + (grp s.size).length + s.size) (hs : s.size ≤ 2000000) :
    Calls Tryz.prog 128 #[.pointer (some ⟨b, 0, none⟩), .slice (some ⟨g, 0, none⟩) 1 1] w fun e w' => e = .returned (.pointer (some ⟨b, 0, none⟩)) ∧ WrTo b v w 2 [] w' := by
  obtain ⟨c1, _⟩ := block_cell hg
  obtain ⟨n, hn⟩ : ∃ n, n = s.size := ⟨_, rfl⟩
  have hn2 : s.size = n := hn.symm
  have HC := Lib.hid (count_any w b 0 n l v h (by omega) (fun _ => by rw [hn]; omega))
  have HI : Hid (TextI w (fun wx => WrTo b v w 2 [] wx) 1 0 w) := .inl ⟨rfl, rfl, rfl⟩
  have HR : Hid (1048576 < l.length + (grp n).length + n ∧ n < 9223372036854775808) := by rw [hn]; exact ⟨hr2, by omega⟩
  clear h hg hr hr2 hs hn
  go_enter Tryz.func128, Tryz.ntmps128
  go_wp2
  go_loopg [9] 1 (fun k s9 wx => ∃ i : Int, s9 = .int .i64 i ∧ Hid (TextI w (fun wx => WrTo b v w 2 [] wx) k i wx))
  case atStart => exact ⟨0, rfl, HI⟩
  case round =>
    clear HI
    obtain ⟨i, rfl, hi⟩ := hrel
    rcases hi.out with ⟨rfl, rfl, rfl⟩ | ⟨rfl, rfl, hp⟩
    · clear hi
      go_wp2_with (first
        | (go_at_call 150; refine HT.out.mono ?_; rintro e w3 ⟨rfl, hw3⟩; have HW3 := Lib.hid (WrTo.trans HF2.out hw3); clear hw3)
        | (go_at_call 86; refine HC.out.mono ?_; rintro e w2 ⟨rfl, v2, hw2, hf2⟩
           rw [addB_no] at hw2
           have HF2 := Lib.hid hf2
           have HT := Lib.hid (takes_big w2 b n _ v2 hw2 (by rw [List.length_append]; exact HR.out.1) HR.out.2)
           clear hw2 hf2))
      go_roundg 0
      case measure => omega
      case rel => exact ⟨1, rfl, .inr ⟨rfl, rfl, HW3.out⟩⟩
    · have HP := Lib.hid hp
      clear hi hp
      go_wp2
      go_ret
      exact ⟨rfl, HP.out⟩
end Go.Proofs.YtjijgoflbjbnfaaGreat.Oc

namespace Go.Proofs.YtjijgoflbjbnfaaGreat.Oc
open Go.RowKit

/-- The slice v holds the bytes l. -/
def BAt (w : World) (v : Value) (l : List Int) : Prop :=
  ∃ A cap, v = .slice A l.length cap ∧ l.length ≤ cap ∧ (0 < l.length → ∃ g o, A = some ⟨g, o, none⟩ ∧ g < w.heap.size ∧ ∀ i, i < l.length → w.cell? ⟨g, o + i, none⟩ = some (.int .u8 (l.getD i 0)))
theorem BAt.of_own {w : World} {base : Nat} {v : Value} {l : List Int} (h : w.ownsRow base 5 1 v l.length (bv l)) : BAt w v l := by
  rcases h.2 with ⟨h1, h2⟩ | ⟨g, cap, cur, h1, _, h3, h4, _⟩
  · exact ⟨none, 0, by rw [h1, h2], by omega, fun h => by omega⟩
  · refine ⟨_, cap, h1, h4, fun _ => ⟨g, 0, rfl, (Array.getElem?_eq_some_iff.1 h3).1, fun i hi => ?_⟩⟩
    have := h.cells (g := g) (by rw [h1]; rfl) i _ (bv_getD hi)
    rw [show (Addr.mk g 0 none).add i = ⟨g, 0 + i, none⟩ by unfold Addr.add; split <;> simp_all] at this
    exact this
theorem BAt.kept {w w' : World} {v : Value} {l : List Int} (h : BAt w v l) (hb : Below w.heap.size w w') : BAt w' v l := by
  obtain ⟨A, cap, h1, h2, h3⟩ := h
  refine ⟨A, cap, h1, h2, fun hp => ?_⟩
  obtain ⟨g, o, h4, h5, h6⟩ := h3 hp
  exact ⟨g, o, h4, Nat.lt_of_lt_of_le h5 hb.size, fun i hi => (hb.cell (p := ⟨g, o + i, none⟩) h5).trans (h6 i hi)⟩

set_option maxRecDepth 100000 in
theorem clone_any (w : World) (v : Value) (l : List Int) (h : BAt w v l) (hl : l.length ≤ 2000000) :
    Calls Tryz.prog 38 #[v] w fun e w' => ∃ v', e = .returned v' ∧ w'.ownsRow w.heap.size 5 1 v' l.length (bv l) ∧ Below w.heap.size w w' := by
  obtain ⟨A, cap, rfl, _, hc⟩ := h
  obtain ⟨i0, hi0, hz0, hz1, hz2⟩ := info_parts u8Inf
  have q22 : ∀ (w : World) (a : Option Addr) (n c n' c' : Nat), (binOp .eql 32 (.slice a n c) (.slice none n' c')).run Tryz.prog w = .ok (.bool a.isNone) w := fun w a n c n' c' => Lib.run_eql_slice_nil w _ _ a n c n' c' Tryz.underlying32
  obtain ⟨n, hn⟩ : ∃ n, n = l.length := ⟨_, rfl⟩
  have HN := Lib.hid hn
  rw [← hn] at hc hl ⊢
  cases A with
  | none =>
    have h0 : l = [] := by
      cases l with
      | nil => rfl
      | cons x r => obtain ⟨g, o, h1, _⟩ := hc (by rw [hn]; simp); cases h1
    subst h0
    have HO : Hid (w.ownsRow w.heap.size 5 1 (.slice none 0 0) n (bv [])) := by
      show World.ownsRow _ _ _ _ _ _ _
      rw [hn]; exact World.ownsRow_nil _ _ _ _
    clear hn hc
    go_enter Tryz.func38, Tryz.ntmps38
    go_wp2
    go_ret
    exact ⟨_, rfl, HO.out, Below.refl _ _⟩
  | some a =>
    have HC : Hid (∀ j u, (bv l)[j]? = some u → (w.alloc (.cells #[] 5)).cell? (a.add j) = some u) := by
      intro j u hu
      have hj : j < n := by have := (List.getElem?_eq_some_iff.1 hu).1; rw [bv_len] at this; omega
      obtain ⟨g, o, h1, h2, h3⟩ := hc (by omega)
      cases h1
      rw [show (Addr.mk g o none).add j = ⟨g, o + j, none⟩ by unfold Addr.add; split <;> simp_all, bv_get hu]
      exact Lib.cell?_alloc_some _ (h3 j hj)
    clear hn hc
    go_enter Tryz.func38, Tryz.ntmps38
    go_wp2_with (at_builtin; refine wpList_append_own _ rfl _ _ 32 rfl w.heap.size 5 i0 (.int .u8 0) 1 1 Tryz.underlying32 hi0 hz0 hz1 hz2 rfl (by decide) _ _ _ rfl (World.ownsRow_made w #[] 0 (Nat.le_refl _) (Nat.zero_le _) rfl) a n cap (bv l) rfl (by rw [bv_len, HN.out]; omega) HC.out (bv_one _) (by unfold maxLen; omega) (by omega) (by simp) ?_; intro v' w1 hown hgrow hnil)
    go_ret
    exact ⟨v', rfl, by simpa using hown, ((Below.refl _ w).alloc (Nat.le_refl _) _).grown hgrow (by simp) (by intro k hk; have hk2 : w.heap.size = k := Option.some.inj hk; omega)⟩

set_option maxRecDepth 100000 in
theorem wdone_nil (w : World) : Calls Tryz.prog 87 #[.pointer none] w fun e w' => e = .returned (.tuple #[.slice none 0 0, .int .i64 10]) ∧ w = w' := by
  go_enter Tryz.func87, Tryz.ntmps87
  go_wp2
  go_ret2
  exact ⟨rfl, rfl⟩
set_option maxRecDepth 100000 in
set_option maxHeartbeats 4000000 in
theorem wdone_any (w : World) (b : Nat) (er : Int) (l : List Int) (v : Value) (h : WrR w b er l v) :
    Calls Tryz.prog 87 #[.pointer (some ⟨b, 0, none⟩)] w fun e w' => ∃ A cap, e = .returned (.tuple #[.slice A l.length cap, .int .i64 er]) ∧ w'.ownsRow w.heap.size 5 1 (.slice A l.length cap) l.length (bv l) ∧ Below w.heap.size w w' := by
  have HC := Lib.hid (clone_any w.drew v l ((BAt.of_own h.2.1).kept (Below.refl _ w).drew) (by have := h.2.2; omega))
  obtain ⟨⟨c1, c2⟩, _⟩ := block_cell2 h.1
  have hlt := h.lt
  have HW := Lib.hid h
  clear h
  go_enter Tryz.func87, Tryz.ntmps87
  go_wp2_with fail
  go_region_held3 (fun w' => w'.cell? ⟨b, 0, none⟩ = some (.int .i64 er) ∧ w'.cell? ⟨b, 1, none⟩ = some v)
    (first
      | (exact ⟨d1, d2⟩)
      | go_keep)
    (first
      | (go_at_call 38; refine HC.out.mono ?_; rintro e w1 ⟨v', rfl, ho1, hb1⟩
         obtain ⟨A1, n1, c1', rfl⟩ : ∃ A n c, v' = Value.slice A n c := by obtain ⟨A, c, h, _⟩ := BAt.of_own ho1; exact ⟨A, _, c, h⟩
         have d1 : w1.cell? ⟨b, 0, none⟩ = some (.int .i64 er) := (hb1.cell (p := ⟨b, 0, none⟩) hlt).trans c1
         have d2 : w1.cell? ⟨b, 1, none⟩ = some v := (hb1.cell (p := ⟨b, 1, none⟩) hlt).trans c2
         have O1 := Lib.hid ho1
         have B1 := Lib.hid hb1
         clear ho1 hb1))
  all_goals
    go_wp2
    go_ret2
    obtain ⟨A, c, h1, _⟩ := BAt.of_own O1.out
    cases h1
    exact ⟨_, _, rfl, O1.out, (Below.refl _ w).drew.trans B1.out⟩

set_option maxRecDepth 100000 in
/-- The reference's Same at equal bytes. -/
theorem same_eq (w : World) (u v : Value) (l : List Int) (hu : BAt w u l) (hv : BAt w v l) (hn : l.length ≤ 2000000) :
    Calls Tryz.prog 18 #[u, v] w fun e w' => e = .returned (.bool true) ∧ Below w.heap.size w w' := by
  obtain ⟨A, cap, rfl, k1, h1⟩ := hu
  obtain ⟨A', cap', rfl, k2, h2⟩ := hv
  obtain ⟨n, hn2⟩ : ∃ n, n = l.length := ⟨_, rfl⟩
  rw [← hn2] at h1 h2 hn k1 k2 ⊢
  have H1 := Lib.hid h1
  have H2 := Lib.hid h2
  have e0 : (0 : Int) ≤ (n : Int) := by omega
  clear h1 h2 hn2
  go_enter Tryz.func18, Tryz.ntmps18
  go_wp2
  go_loopg [5] n (fun (gh : Nat) s5 wx => ∃ i : Nat, gh = n - i ∧ i ≤ n ∧ s5 = .int .i64 (i : Int) ∧ Below w.heap.size w wx)
  case atStart => exact ⟨0, rfl, Nat.zero_le _, rfl, Below.refl _ _⟩
  case round =>
    obtain ⟨i, rfl, hi, rfl, hbel⟩ := hrel
    by_cases hlt : i < n
    · have t1 : (i : Int) < (n : Int) := by omega
      have t2 : (0 : Int) ≤ (i : Int) := by omega
      obtain ⟨g, o, rfl, lg, hc1⟩ := H1.out (by omega)
      obtain ⟨g', o', rfl, lg', hc3⟩ := H2.out (by omega)
      obtain ⟨r, hr⟩ : ∃ r, r = l.getD i 0 := ⟨_, rfl⟩
      have c1 : wr.cell? ⟨g, o + i, none⟩ = some (.int .u8 r) := by rw [hr]; exact (hbel.cell (p := ⟨g, o + i, none⟩) lg).trans (hc1 i hlt)
      have c3 : wr.cell? ⟨g', o' + i, none⟩ = some (.int .u8 r) := by rw [hr]; exact (hbel.cell (p := ⟨g', o' + i, none⟩) lg').trans (hc3 i hlt)
      have HB := Lib.hid hbel
      clear hbel hr hc1 hc3
      go_wp2_with fail
      go_quiet (fail)
      go_wp2
      go_roundg (n - (i + 1))
      case measure => omega
      case rel => exact ⟨i + 1, rfl, hlt, by go_num, ⟨HB.out.os, HB.out.tape, HB.out.output, HB.out.size, HB.out.block⟩⟩
    · have hil : i = n := by omega
      subst hil
      have t1 : decide ((i : Int) < (i : Int)) = false := by simp
      have HB := Lib.hid hbel
      clear hbel
      go_wp2
      go_ret
      exact ⟨rfl, HB.out⟩
end Go.Proofs.YtjijgoflbjbnfaaGreat.Oc
