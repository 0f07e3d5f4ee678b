/-
  The contract of fixed's Text: the digits, a minus sign ahead of a number below nought. Conditions: the types' own ranges.
-/
import Derived.Test.YtjnohdkpkbiclaaDec
namespace Go.Proofs.Ytjnohdkpkbiclaa
open Go.RowKit

/-- The bytes of the text of the number x. -/
def textOf (x : Int) : List Int := if x < 0 then 45 :: decF 40 x.natAbs else decF 40 x.natAbs

theorem text_step {f L : Nat} {N : List Int} {tl : List Int} (hL : 10 ≤ L) (h : N = decF (f + 1) L ++ tl) : N = decF f (L / 10) ++ ((48 + ((L % 10 : Nat) : Int)) :: tl) := by
  rw [h]
  conv => lhs; unfold decF
  rw [if_neg (by omega)]
  simp
theorem text_last {f L : Nat} {N : List Int} {tl : List Int} (hL : L < 10) (h : N = decF (f + 1) L ++ tl) : N = (48 + ((L % 10 : Nat) : Int)) :: tl := by
  rw [h]
  conv => lhs; unfold decF
  rw [if_pos hL, Nat.mod_eq_of_lt hL]
  simp
theorem drop_set_at (bs : List Int) (j : Nat) (d : Int) (h : j < bs.length) : (bs.set j d).drop j = d :: bs.drop (j + 1) := by
  rw [List.drop_set, if_neg (by omega), Nat.sub_self, List.drop_eq_getElem_cons h]; rfl

theorem len40 : Try.prog.arrayLen 88 = 40 := by kernel_rfl
theorem elem40 (W : World) : (sizeOf (Try.prog.elem 88)).run Try.prog W = .ok 1 W := by kernel_rfl
theorem slice_tail (W : World) (g j : Nat) (hj : j ≤ 39) : (Instr.sliceAt 88 (.pointer (some ⟨g, 0, none⟩)) (some (.int .i64 (j : Int))) none none).run Try.prog W = .ok (.slice (some ⟨g, j, none⟩) (40 - j) (40 - j)) W := by
  rw [run_sliceAt_array_l W 88 ⟨g, 0, none⟩ (by kernel_rfl) .i64 (j : Int) (by omega) (by rw [len40]; omega), elem40, len40]
  simp only [Result.andThen, slicedAt, Int.toNat_natCast]
  rw [if_neg (by omega)]
  simp [Addr.add]
  omega

set_option maxRecDepth 100000 in
set_option maxHeartbeats 2000000 in
theorem text_any (w : World) (h l : Int) (k : WOk h l) :
    Calls Try.prog 31 #[.agg #[.int .i64 h, .int .u64 l]] w fun e w' => e = .returned (.string (mkStr (textOf (wv h l)))) ∧ Below w.heap.size w w' := by
  have K := Lib.hid k
  have e1 := Lib.hid (show (w.alloc (.cells #[.int .i64 h, .int .u64 l] 38)).heap.size = w.heap.size + 1 by simp)
  have hsg : Hid ((wv h l < 0) = (h < 0)) := by
    obtain ⟨k0, k1, k2, k3⟩ := k
    show _ = _
    unfold wv; apply propext; omega
  clear k
  go_enter Try.func31, Try.ntmps31
  go_wp2_with fail
  refine (sizeOf_any _ h l K.out).mono ?_
  rintro e w1 ⟨p, q, rfl, hs, b1⟩
  have HS := Lib.hid hs
  have kA := Lib.hid (block_kept (block_old (block_new w (.cells #[.int .i64 h, .int .u64 l] 38)) (.cells (bv (List.replicate 40 0)).toArray 88)) b1)
  have kT := block_kept (block_new (w.alloc (.cells #[.int .i64 h, .int .u64 l] 38)) (.cells (bv (List.replicate 40 0)).toArray 88)) b1
  rw [e1.out] at kT
  have KT := Lib.hid kT
  have hs1 : w.heap.size + 1 < w1.heap.size := by have := b1.size; simp only [World.size_alloc] at this; omega
  have hbb : Below w.heap.size w w1 := (((Below.refl _ _).alloc (Nat.le_refl _) _).alloc (by rw [e1.out]; omega) _).trans (b1.mono (by simp only [World.size_alloc]; omega))
  have HBB := Lib.hid hbb
  clear hs b1 kT hbb
  go_upto_block 0 with (fail)
  obtain ⟨W0, hW0⟩ : ∃ W0, W0 = w1.alloc (.cells #[.int .u64 p, .int .u64 q] 78) := ⟨_, rfl⟩
  have jL : Hid (W0.heap[w1.heap.size]? = some (.cells #[.int .u64 p, .int .u64 q] 78 (0, 0))) := by rw [hW0]; exact block_new _ _
  have jT : Hid (W0.heap[w.heap.size + 1]? = some (.cells (bv (List.replicate 40 0)).toArray 88 (0, 0))) := by rw [hW0]; exact block_old KT.out _
  have jA : Hid (W0.heap[w.heap.size]? = some (.cells #[.int .i64 h, .int .u64 l] 38 (0, 0))) := by rw [hW0]; exact block_old kA.out _
  have jb : Hid (Below w.heap.size w W0) := by rw [hW0]; exact HBB.out.alloc (by omega) _
  rw [← hW0]
  clear hW0 KT kA HBB
  obtain ⟨N, hN⟩ : ∃ N, N = (wv h l).natAbs := ⟨_, rfl⟩
  have hNb : N < 10 ^ 39 := by
    have := K.out
    unfold WOk at this
    unfold wv at hN
    have : (10 : Nat) ^ 39 = 1000000000000000000000000000000000000000 := by decide
    omega
  have HN := Lib.hid hN
  have HNB := Lib.hid hNb
  clear hN hNb
  go_cut [4] from 9 (fun sat wx => ∃ (j : Nat) (bs : List Int), 1 ≤ j ∧ j ≤ 39 ∧ sat = .int .i64 (j : Int) ∧ bs.length = 40 ∧ Hid (wx.heap[w.heap.size + 1]? = some (.cells (bv bs).toArray 88 (0, 0)) ∧
      wx.heap[w.heap.size]? = some (.cells #[.int .i64 h, .int .u64 l] 38 (0, 0)) ∧ Below w.heap.size w wx ∧ bs.drop j = decF 40 N))
  case first =>
    go_wp2
    go_loopg [4] 39 (fun g sat wx => ∃ (p q : Int) (L : Nat) (bs : List Int), 1 ≤ g ∧ g ≤ 39 ∧ sat = .int .i64 ((g : Int) + 1) ∧ bs.length = 40 ∧
        Hid (wx.heap[w1.heap.size]? = some (.cells #[.int .u64 p, .int .u64 q] 78 (0, 0)) ∧ wx.heap[w.heap.size + 1]? = some (.cells (bv bs).toArray 88 (0, 0)) ∧
          wx.heap[w.heap.size]? = some (.cells #[.int .i64 h, .int .u64 l] 38 (0, 0)) ∧ Below w.heap.size w wx ∧ SOk p q ∧ wv p q = L ∧ L < 10 ^ g ∧ decF 40 N = decF (g + 1) L ++ bs.drop (g + 1)))
    case atStart => exact ⟨p, q, N, _, by decide, by decide, rfl, by simp, jL.out, jT.out, jA.out, jb.out, HS.out.out.1, by rw [HS.out.out.2, HN.out], HNB.out, by simp⟩
    case round =>
      obtain ⟨p, q, L, bs, hj1, hj2, rfl, hbl, hinv⟩ := hrel
      obtain ⟨j, rfl⟩ : ∃ j, gk = j := ⟨gk, rfl⟩
      obtain ⟨c0, c1, f0, f1⟩ := blk2 hinv.out.1
      go_wp2_with fail
      refine (sdivide_any _ p q 10 hinv.out.2.2.2.2.1 (by decide) (by decide)).mono ?_
      rintro e w2 ⟨p2, q2, r, rfl, hs, b2⟩
      have kL := block_kept hinv.out.1 b2
      have kT := block_kept hinv.out.2.1 b2
      have kA := block_kept hinv.out.2.2.1 b2
      have hbw : Below w.heap.size w w2 := hinv.out.2.2.2.1.trans (b2.mono hinv.out.2.2.2.1.size)
      obtain ⟨d0, d1, g0, g1⟩ := blk2 kL
      have hrL : Hid (r = ((L % 10 : Nat) : Int) ∧ wv p2 q2 = ((L / 10 : Nat) : Int) ∧ SOk p2 q2) := by
        obtain ⟨h1, h2, h3, h4, h5, h6⟩ := hs.out
        rw [hinv.out.2.2.2.2.2.1] at h2 h3
        exact ⟨by omega, by omega, h1⟩
      have r0 : 0 ≤ r := hs.out.2.2.2.1
      have r1 : r < 10 := hs.out.2.2.2.2.1
      have KL := Lib.hid kL
      have KT := Lib.hid kT
      have KA := Lib.hid kA
      have HBW := Lib.hid hbw
      have hne1 : w1.heap.size ≠ w.heap.size + 1 := by omega
      have hne2 : w1.heap.size ≠ w.heap.size := by omega
      have HNE1 := Lib.hid hne1
      have HNE2 := Lib.hid hne2
      -- what lies there behind the round's two stores
      have aft : Hid (∀ W, W = ((w2.setCell ⟨w1.heap.size, 0, none⟩ (.int .u64 p2)).setCell ⟨w1.heap.size, 1, none⟩ (.int .u64 q2)).setCell ⟨w.heap.size + 1, gk, none⟩ (.int .u8 (48 + r)) →
          W.heap[w1.heap.size]? = some (.cells #[.int .u64 p2, .int .u64 q2] 78 (0, 0)) ∧ W.heap[w.heap.size + 1]? = some (.cells (bv (bs.set gk (48 + r))).toArray 88 (0, 0)) ∧
          W.heap[w.heap.size]? = some (.cells #[.int .i64 h, .int .u64 l] 38 (0, 0)) ∧ Below w.heap.size w W) := by
        rintro W rfl
        refine ⟨block_set (blk_store2 KL.out _ _) hne1 _, ?_, block_set (block_set (block_set KA.out hne2.symm _) hne2.symm _) (by simp) _, ?_⟩
        · exact brow_set (block_set (block_set KT.out hne1.symm _) hne1.symm _) _ _
        · exact (below_stored HBW.out (by omega) _ _).setCell (p := ⟨w.heap.size + 1, gk, none⟩) (Nat.le_succ _) _
      clear kL kT kA b2 hs hbw hne1 hne2 c0 c1 f0 f1
      obtain ⟨tc, tf⟩ := brow_cell KT.out gk (by omega)
      have hs2 : w1.heap.size ≠ w.heap.size + 1 := by omega
      have kp := hrL.out.2.2
      obtain ⟨p0, p1, q0, q1⟩ := kp
      by_cases hL : 10 ≤ L
      · have hcont : ∀ W, W = ((w2.setCell ⟨w1.heap.size, 0, none⟩ (.int .u64 p2)).setCell ⟨w1.heap.size, 1, none⟩ (.int .u64 q2)).setCell ⟨w.heap.size + 1, gk, none⟩ (.int .u8 (48 + r)) →
            1 ≤ gk - 1 ∧ gk - 1 ≤ 39 ∧ ((gk - 1 : Nat) : Int) + 1 = gk ∧ (bs.set gk (48 + r)).length = 40 ∧
            Hid (W.heap[w1.heap.size]? = some (.cells #[.int .u64 p2, .int .u64 q2] 78 (0, 0)) ∧ W.heap[w.heap.size + 1]? = some (.cells (bv (bs.set gk (48 + r))).toArray 88 (0, 0)) ∧
              W.heap[w.heap.size]? = some (.cells #[.int .i64 h, .int .u64 l] 38 (0, 0)) ∧ Below w.heap.size w W ∧ SOk p2 q2 ∧ wv p2 q2 = ((L / 10 : Nat) : Int) ∧ L / 10 < 10 ^ (gk - 1) ∧ decF 40 N = decF (gk - 1 + 1) (L / 10) ++ (bs.set gk (48 + r)).drop (gk - 1 + 1)) := by
          intro W hW
          obtain ⟨a1, a2, a3, a4⟩ := aft.out W hW
          have hlt := hinv.out.2.2.2.2.2.2.1
          have hd := hinv.out.2.2.2.2.2.2.2
          have hg2 : 2 ≤ gk := by
            rcases (by omega : gk = 1 ∨ 2 ≤ gk) with h1 | h1
            · rw [h1] at hlt; simp at hlt; omega
            · exact h1
          obtain ⟨m, hm⟩ : ∃ m, gk = m + 1 := ⟨gk - 1, by omega⟩
          refine ⟨by omega, by omega, by omega, by simpa using hbl, a1, a2, a3, a4, hrL.out.2.2, hrL.out.2.1, ?_, ?_⟩
          · rw [hm, Nat.pow_succ] at hlt
            rw [hm, Nat.add_sub_cancel]; omega
          · have ht := text_step hL hd
            rw [show gk - 1 + 1 = gk by omega, drop_set_at bs gk _ (by omega), ht, hrL.out.1]
        have HCT := Lib.hid hcont
        clear hcont aft hinv
        rcases (by have := hrL.out.2.1; unfold wv at this; omega : 0 < p2 ∨ (0 = p2 ∧ 0 < q2)) with hp | ⟨rfl, hq⟩
        · have z1 : (p2 == 0) = false := by simp; omega
          go_wp2_with fail
          obtain ⟨x1, x2, x3, x4, x5⟩ := HCT.out _ rfl
          go_roundg (gk - 1)
          case measure => omega
          case rel => exact ⟨p2, q2, L / 10, bs.set gk (48 + r), x1, x2, by rw [x3], x4, x5⟩
        · have z1 : (q2 == 0) = false := by simp; omega
          go_wp2_with fail
          obtain ⟨x1, x2, x3, x4, x5⟩ := HCT.out _ rfl
          go_roundg (gk - 1)
          case measure => omega
          case rel => exact ⟨0, q2, L / 10, bs.set gk (48 + r), x1, x2, by rw [x3], x4, x5⟩
      · have hz : p2 = 0 ∧ q2 = 0 := by have := hrL.out.2.1; unfold wv at this; omega
        obtain ⟨rfl, rfl⟩ := hz
        have hdone : ∀ W, W = ((w2.setCell ⟨w1.heap.size, 0, none⟩ (.int .u64 0)).setCell ⟨w1.heap.size, 1, none⟩ (.int .u64 0)).setCell ⟨w.heap.size + 1, gk, none⟩ (.int .u8 (48 + r)) →
            (bs.set gk (48 + r)).length = 40 ∧ Hid (W.heap[w.heap.size + 1]? = some (.cells (bv (bs.set gk (48 + r))).toArray 88 (0, 0)) ∧
              W.heap[w.heap.size]? = some (.cells #[.int .i64 h, .int .u64 l] 38 (0, 0)) ∧ Below w.heap.size w W ∧ (bs.set gk (48 + r)).drop gk = decF 40 N) := by
          intro W hW
          obtain ⟨a1, a2, a3, a4⟩ := aft.out W hW
          have hd := hinv.out.2.2.2.2.2.2.2
          refine ⟨by simpa using hbl, a2, a3, a4, ?_⟩
          rw [drop_set_at bs gk _ (by omega), hrL.out.1]
          exact (text_last (by omega) hd).symm
        have HDN := Lib.hid hdone
        clear hdone aft hinv
        go_wp2_with fail
        obtain ⟨x1, x2⟩ := HDN.out _ rfl
        go_meet
        case rel => exact ⟨gk, _, hj1, hj2, rfl, x1, x2⟩
  case rest =>
    obtain ⟨j, bs, hj1, hj2, rfl, hbl, hinv⟩ := hcut
    obtain ⟨a0, a1, _, _⟩ := blk2 hinv.out.2.1
    obtain ⟨tc, tf⟩ := brow_cell hinv.out.1 (j - 1) (by omega)
    by_cases hn : h < 0
    · have hcv : Hid ((convert 89 9 (.slice (some ⟨w.heap.size + 1, j - 1, none⟩) (40 - (j - 1)) (40 - (j - 1)))).run Try.prog (wc.setCell ⟨w.heap.size + 1, j - 1, none⟩ (.int .u8 45)) = .ok (.string (mkStr (textOf (wv h l)))) (wc.setCell ⟨w.heap.size + 1, j - 1, none⟩ (.int .u8 45))) := by
        have h1 := brow_string (brow_set hinv.out.1 (j - 1) 45) (j - 1) (40 - (j - 1)) (40 - (j - 1)) (by simp; omega)
        rw [drop_set_at bs (j - 1) 45 (by omega), show j - 1 + 1 = j by omega, hinv.out.2.2.2, HN.out] at h1
        show _ = _
        rw [h1]
        unfold textOf
        rw [if_pos (by rw [hsg.out]; exact hn)]
      obtain ⟨m, rfl⟩ : ∃ m, j = m + 1 := ⟨j - 1, by omega⟩
      rw [Nat.add_sub_cancel] at hcv tc tf
      have hsl := slice_tail (wc.setCell ⟨w.heap.size + 1, m, none⟩ (.int .u8 45)) (w.heap.size + 1) m (by omega)
      have hcv2 := hcv.out
      go_wp2_with fail
      go_ret
      exact ⟨rfl, hinv.out.2.2.1.setCell (p := ⟨w.heap.size + 1, m, none⟩) (Nat.le_succ _) _⟩
    · have hcv : Hid ((convert 89 9 (.slice (some ⟨w.heap.size + 1, j, none⟩) (40 - j) (40 - j))).run Try.prog wc = .ok (.string (mkStr (textOf (wv h l)))) wc) := by
        have h1 := brow_string hinv.out.1 j (40 - j) (40 - j) (by omega)
        rw [hinv.out.2.2.2, HN.out] at h1
        show _ = _
        rw [h1]
        unfold textOf
        rw [if_neg (by rw [hsg.out]; exact hn)]
      have hcv2 := hcv.out
      have hsl := slice_tail wc (w.heap.size + 1) j hj2
      go_wp2_with fail
      go_ret
      exact ⟨rfl, hinv.out.2.2.1⟩
end Go.Proofs.Ytjnohdkpkbiclaa
