/-
  Groups of seven bits; a number without its sign. The contracts of groups and folded. Conditions: none.
-/
import Derived.Test.YtganokcmcdkdgaaGreatOBase
namespace Go.Proofs.YtganokcmcdkdgaaGreat.Oc
open Go.RowKit

/-- The groups of m, at most k + 1 of them. -/
def grpF : Nat → Nat → List Int
  | 0, m => [(m : Int)]
  | k + 1, m => if m < 128 then [(m : Int)] else (((m % 128 : Nat) : Int) + 128) :: grpF k (m / 128)
def grp (m : Nat) : List Int := grpF 9 m
theorem grpF_one {k m : Nat} (h : m < 128) : grpF k m = [(m : Int)] := by
  cases k with
  | zero => rfl
  | succ k => unfold grpF; rw [if_pos h]
theorem grpF_more {k m : Nat} (h : ¬ m < 128) : grpF (k + 1) m = (((m % 128 : Nat) : Int) + 128) :: grpF k (m / 128) := by
  rw [grpF, if_neg h]
theorem grpF_len (k m : Nat) : (grpF k m).length ≤ k + 1 ∧ 1 ≤ (grpF k m).length := by
  induction k generalizing m with
  | zero => simp [grpF]
  | succ k ih =>
    unfold grpF
    split
    · simp
    · have := ih (m / 128)
      simp only [List.length_cons]; omega
theorem grp_len (m : Nat) : (grp m).length ≤ 10 ∧ 1 ≤ (grp m).length := grpF_len 9 m
/-- A number without its sign. -/
def fold (x : Int) : Nat := if x < 0 then (2 * (-x - 1) + 1).toNat else (2 * x).toNat

theorem block_cellv {w : World} {b : Nat} {x : Value} {t : TypeId} (h : w.heap[b]? = some (.cells #[x] t (0, 0))) : w.cell? ⟨b, 0, none⟩ = some x := (block_cell h).1
set_option maxRecDepth 100000 in
theorem cut1_any (w : World) (B m : Nat) (h : w.heap[B]? = some (.cells #[.int .u64 (m : Int)] 80 (0, 0))) (hm : m < 18446744073709551616) :
    Calls Tryz.prog 76 #[.pointer (some ⟨B, 0, none⟩)] w fun e w' => e = .returned (.int .u8 ((m % 128 : Nat) : Int)) ∧ w' = w.setCell ⟨B, 0, none⟩ (.int .u64 ((m / 128 : Nat) : Int)) := by
  obtain ⟨c1, f1⟩ := block_cell h
  go_enter Tryz.func76, Tryz.ntmps76
  go_wp2
  go_ret
  exact ⟨rfl, rfl⟩

/-- The groups while they are made. -/
def GrpI (w : World) (n : Nat) (k : Nat) (v : Value) (wx : World) : Prop :=
  ∃ (m : Nat) (acc : List Int), wx.heap[w.heap.size]? = some (.cells #[.int .u64 (m : Int)] 80 (0, 0)) ∧ wx.ownsRow (w.heap.size + 1) 5 1 v acc.length (bv acc) ∧ Below w.heap.size w wx ∧
    acc ++ grpF k m = grp n ∧ m < 2 * 128 ^ k ∧ acc.length + k = 9
theorem cell_one_new (w : World) (x : Value) (t : TypeId) : ∀ j u, [x][j]? = some u → (w.alloc (.cells #[x] t)).cell? ((⟨w.heap.size, 0, none⟩ : Addr).add j) = some u :=
  World.news_of_block (heap_alloc_new w _)
theorem made10 : ∀ W : World, (Instr.makeSlice 22 (.int .i64 0) (.int .i64 10)).run Tryz.prog W = .ok (.slice (some ⟨W.heap.size, 0, none⟩) 0 10) (W.alloc (.cells #[.int .u8 0, .int .u8 0, .int .u8 0, .int .u8 0, .int .u8 0, .int .u8 0, .int .u8 0, .int .u8 0, .int .u8 0, .int .u8 0] 5)) := fun _ => by kernel_rfl
/-- One group more. -/
theorem grp_step {k m : Nat} {acc : List Int} {n : Nat} (h : acc ++ grpF (k + 1) m = grp n) (hm : ¬ m < 128) : (acc ++ [((m % 128 : Nat) : Int) + 128]) ++ grpF k (m / 128) = grp n := by
  rw [← h, grpF_more hm]; simp
set_option maxRecDepth 100000 in
set_option maxHeartbeats 4000000 in
theorem groups_any (w : World) (n : Nat) (hn : n < 18446744073709551616) :
    Calls Tryz.prog 45 #[.int .u64 (n : Int)] w fun e w' => ∃ v, e = .returned v ∧ w'.ownsRow w.heap.size 5 1 v (grp n).length (bv (grp n)) ∧ Below w.heap.size w w' := by
  obtain ⟨i0, hi0, hz0, hz1, hz2⟩ := info_parts u8Inf
  have hmk := made10
  have hmf : ∀ (fn : Fn) (first cap : Array Value) (w : World), (Instr.makeFunc fn first cap).run Tryz.prog w = .ok (.func fn first cap) w := fun _ _ _ _ => rfl
  have h0 : Hid (GrpI w n 9 (.slice (some ⟨w.heap.size + 1, 0, none⟩) 0 10) ((w.alloc (.cells #[.int .u64 (n : Int)] 80)).alloc (.cells #[.int .u8 0, .int .u8 0, .int .u8 0, .int .u8 0, .int .u8 0, .int .u8 0, .int .u8 0, .int .u8 0, .int .u8 0, .int .u8 0] 5))) := by
    refine ⟨n, [], block_old (block_new _ _) _, ?_, ((Below.refl _ _).alloc (Nat.le_refl _) _).alloc (by simp) _, rfl, by omega, rfl⟩
    have := World.ownsRow_made (base := w.heap.size + 1) (e := 5) (size := 1) (w.alloc (.cells #[.int .u64 (n : Int)] 80)) #[.int .u8 0, .int .u8 0, .int .u8 0, .int .u8 0, .int .u8 0, .int .u8 0, .int .u8 0, .int .u8 0, .int .u8 0, .int .u8 0] 10 (by simp) (by decide) rfl
    simpa [bv] using this
  go_enter Tryz.func45, Tryz.ntmps45
  go_wp2
  go_loopg [4] 9 (fun k s4 wx => Hid (GrpI w n k s4 wx))
  case atStart => exact h0
  case round =>
    clear h0
    have hi := hrel.out
    clear hrel
    obtain ⟨m, acc, hb, hown, hbel, heq, hm, hacc⟩ := hi
    obtain ⟨c1, f1⟩ := block_cell hb
    have hm64 : m < 18446744073709551616 := by
      have : (128 : Nat) ^ gk ≤ 128 ^ 9 := Nat.pow_le_pow_right (by decide) (by omega)
      have e9 : (128 : Nat) ^ 9 = 9223372036854775808 := by decide
      omega
    have HC := Lib.hid (cut1_any wr w.heap.size m hb hm64)
    have hz := hbel.size
    have HO := Lib.hid hown
    have HE := Lib.hid heq
    have HB := Lib.hid hbel
    have HBB := Lib.hid hb
    have HM := Lib.hid hm
    have hlt : w.heap.size < wr.heap.size := (Array.getElem?_eq_some_iff.1 hb).1
    obtain ⟨c, hc⟩ : ∃ c, c = m % 128 := ⟨_, rfl⟩
    obtain ⟨m2, hm2⟩ : ∃ m2, m2 = m / 128 := ⟨_, rfl⟩
    rw [← hc, ← hm2] at HC
    have hc2 : c < 128 := by omega
    have O1 : Hid ((wr.setCell ⟨w.heap.size, 0, none⟩ (.int .u64 (m2 : Int))).ownsRow (w.heap.size + 1) 5 1 u4 acc.length (bv acc)) := ownsRow_kept hown (fun g hg => Below.heap_setCell _ _ _ _ (by have := (hown.lt g hg).1; show g ≠ w.heap.size; omega))
    have hsz : (wr.setCell ⟨w.heap.size, 0, none⟩ (.int .u64 (m2 : Int))).heap.size = wr.heap.size := by simp [World.setCell]
    have B1 : Hid (Below w.heap.size w (wr.setCell ⟨w.heap.size, 0, none⟩ (.int .u64 (m2 : Int)))) := hbel.setCell (p := ⟨w.heap.size, 0, none⟩) (Nat.le_refl _) _
    have HB1 : Hid ((wr.setCell ⟨w.heap.size, 0, none⟩ (.int .u64 (m2 : Int))).heap[w.heap.size]? = some (.cells #[.int .u64 (m2 : Int)] 80 (0, 0))) := block_put hb _
    have HSZ := Lib.hid hsz
    have HF : Hid ((m < 128 → grp n = acc ++ [(c : Int)]) ∧ (¬ m < 128 → ∃ k, gk = k + 1 ∧ (acc ++ [(c : Int) + 128]) ++ grpF k m2 = grp n ∧ m2 < 2 * 128 ^ k ∧ (acc ++ [(c : Int) + 128]).length + k = 9)) := by
      refine ⟨fun h => ?_, fun h => ?_⟩
      · rw [← heq, grpF_one h, hc, Nat.mod_eq_of_lt h]
      · cases gk with
        | zero => omega
        | succ k => exact ⟨k, rfl, by rw [hc, hm2]; exact grp_step heq h, by rw [hm2]; rw [Nat.pow_succ] at hm; omega, by simp; omega⟩
    have hal : acc.length ≤ 9 := by omega
    clear hown hbel heq hb hsz hc hm2 hm hacc
    by_cases hbig : m < 128
    · have t1 : ¬ (128 : Int) ≤ (m : Int) := by omega
      have HG := Lib.hid (HF.out.1 hbig)
      go_wp2_with (first
        | (at_builtin; refine wpList_append_lies _ rfl _ _ 22 rfl (w.heap.size + 1) 5 i0 _ 1 1 Tryz.underlying22 hi0 hz0 hz1 hz2 rfl (by decide) _ _ _ rfl (O1.out.alloc _) ⟨wr.heap.size, 0, none⟩ 1 1 [.int .u8 (c : Int)] rfl rfl (by rw [← HSZ.out]; exact cell_one_new _ _ _) (by simp [Value.oneCell']) (by decide) (by unfold maxLen; omega) (by omega) (by simp; omega) _ rfl ?_; intro gg cp w2 hown2 hgrow hat hlt2)
        | (go_at_call 76; refine HC.out.mono ?_; rintro e w1 ⟨rfl, rfl⟩))
      go_ret
      have HB2 : Hid (Below w.heap.size w w2) := (B1.out.alloc (by rw [HSZ.out]; omega) _).grown hgrow (by simp [World.setCell]; omega) (fun j hj => by have := (O1.out.lt j hj).1; omega)
      refine ⟨_, rfl, ?_, HB2.out⟩
      rw [HG.out, List.length_append, bv_app]
      exact ownsRow_base hown2 (Nat.le_succ _)
    · have t1 : (128 : Int) ≤ (m : Int) := by omega
      obtain ⟨k, rfl, hk1, hk2, hk3⟩ := HF.out.2 hbig
      have HK1 := Lib.hid hk1
      have HK2 := Lib.hid hk2
      have HK3 := Lib.hid hk3
      clear hk1 hk2 hk3
      go_wp2_with (first
        | (at_builtin; refine wpList_append_lies _ rfl _ _ 22 rfl (w.heap.size + 1) 5 i0 _ 1 1 Tryz.underlying22 hi0 hz0 hz1 hz2 rfl (by decide) _ _ _ rfl (O1.out.alloc _) ⟨wr.heap.size, 0, none⟩ 1 1 [.int .u8 ((c : Int) + 128)] rfl rfl (by rw [← HSZ.out]; exact cell_one_new _ _ _) (by simp [Value.oneCell']) (by decide) (by unfold maxLen; omega) (by omega) (by simp; omega) _ rfl ?_; intro gg cp w2 hown2 hgrow hat hlt2)
        | (go_at_call 76; refine HC.out.mono ?_; rintro e w1 ⟨rfl, rfl⟩))
      have HB2 : Hid (Below w.heap.size w w2) := (B1.out.alloc (by rw [HSZ.out]; omega) _).grown hgrow (by simp [World.setCell]; omega) (fun j hj => by have := (O1.out.lt j hj).1; omega)
      have HN : Hid (w2.heap[w.heap.size]? = some (.cells #[.int .u64 (m2 : Int)] 80 (0, 0))) := (hgrow.block _ (by simp [World.setCell]; omega) (fun e => by have := (O1.out.lt _ e.symm).1; omega)).trans (block_old HB1.out _)
      have HO2 : Hid (w2.ownsRow (w.heap.size + 1) 5 1 (.slice (some ⟨gg, 0, none⟩) (acc.length + 1) cp) (acc ++ [(c : Int) + 128]).length (bv (acc ++ [(c : Int) + 128]))) := by
        show World.ownsRow _ _ _ _ _ _ _
        rw [List.length_append, bv_app]
        exact hown2
      go_roundg k
      case measure => omega
      case rel => exact ⟨m2, _, HN.out, HO2.out, HB2.out, HK1.out, HK2.out, HK3.out⟩
theorem not64 (x : Int) (h1 : -9223372036854775808 ≤ x) (h2 : x < 9223372036854775808) : bits .xor .i64 (-1) x = -1 - x := by
  show IntKind.i64.wrap ((BitVec.ofInt 64 (-1) ^^^ BitVec.ofInt 64 x).toNat : Int) = _
  have h3 : BitVec.ofInt 64 (-1) = BitVec.allOnes 64 := by decide
  rw [h3, BitVec.allOnes_xor, BitVec.toNat_not, BitVec.toNat_ofInt]
  simp [IntKind.wrap, IntKind.bits, IntKind.signed]
  omega
end Go.Proofs.YtganokcmcdkdgaaGreat.Oc
