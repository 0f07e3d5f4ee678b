/-
  The contract of the reference's 'Add' where the signs differ, and of 'Add' as a whole. Conditions: each number has at most 1000 digits.
-/
import Derived.Test.YtjnohdkpkbiclaaAdd
namespace Go.Proofs.Ytjnohdkpkbiclaa
open Go.RowKit

theorem sub_step0 (p d0 d1 m s k0 a b : Int) (hs : s = d0 - d1 - m) (h : p - k0 * m = a - b) : p + k0 * s - 65536 * k0 * 0 = a + k0 * d0 - (b + k0 * d1) := by
  subst hs
  simp only [Int.mul_sub]
  omega
theorem sub_step1 (p d0 d1 m s k0 a b : Int) (hs : s = d0 - d1 - m) (h : p - k0 * m = a - b) : p + k0 * (s + 65536) - 65536 * k0 * 1 = a + k0 * d0 - (b + k0 * d1) := by
  subst hs
  simp only [Int.mul_sub, Int.mul_add]
  have : k0 * 65536 = 65536 * k0 := Int.mul_comm _ _
  omega
theorem digs_len_le {m n : Nat} (h : m ≤ n) : (digs m).length ≤ (digs n).length := by
  rcases Nat.lt_or_ge (digs n).length (digs m).length with h1 | h1
  · have := digs_lt_of_len h1; omega
  · exact h1

/-- Three new blocks, and draws. -/
theorem three_new (w : World) (o1 o2 o3 : Obj) (n : Nat) :
    ((((w.alloc o1).alloc o2).alloc o3).drewN n).heap[w.heap.size]? = some o1 ∧ ((((w.alloc o1).alloc o2).alloc o3).drewN n).heap[w.heap.size + 1]? = some o2 ∧
    ((((w.alloc o1).alloc o2).alloc o3).drewN n).heap[w.heap.size + 1 + 1]? = some o3 ∧ ((((w.alloc o1).alloc o2).alloc o3).drewN n).heap.size = w.heap.size + 1 + 1 + 1 ∧
    Below w.heap.size w ((((w.alloc o1).alloc o2).alloc o3).drewN n) ∧ True := by
  have e1 : (w.alloc o1).heap.size = w.heap.size + 1 := by simp
  have e2 : ((w.alloc o1).alloc o2).heap.size = w.heap.size + 1 + 1 := by simp
  refine ⟨?_, ?_, ?_, ?_, ?_, trivial⟩
  · show (((w.alloc o1).alloc o2).alloc o3).heap[w.heap.size]? = some o1
    exact block_old (block_old (block_new _ _) _) _
  · show (((w.alloc o1).alloc o2).alloc o3).heap[w.heap.size + 1]? = some o2
    rw [← e1]; exact block_old (block_new _ _) _
  · show (((w.alloc o1).alloc o2).alloc o3).heap[w.heap.size + 1 + 1]? = some o3
    rw [← e2]; exact block_new _ _
  · show (((w.alloc o1).alloc o2).alloc o3).heap.size = _
    simp
  · exact below_drewN ((((Below.refl _ _).alloc (Nat.le_refl _) _).alloc (by simp) _).alloc (by simp; omega) _) _
theorem blk_store2 {w : World} {b : Nat} {x y : Value} {t : TypeId} (h : w.heap[b]? = some (.cells #[x, y] t (0, 0))) (u v : Value) :
    ((w.setCell ⟨b, 0, none⟩ u).setCell ⟨b, 1, none⟩ v).heap[b]? = some (.cells #[u, v] t (0, 0)) := by
  have h1 : (w.setCell ⟨b, 0, none⟩ u).heap[b]? = some (.cells #[u, y] t (0, 0)) := by
    simp only [World.setCell, Array.getElem?_modify, if_true]; rw [h]; rfl
  simp only [World.setCell, Array.getElem?_modify, if_true] at h1 ⊢
  rw [h1]; rfl
theorem size_setCell (w : World) (p : Addr) (u : Value) : (w.setCell p u).heap.size = w.heap.size := by simp [World.setCell]

set_option maxRecDepth 100000 in
set_option maxHeartbeats 2000000 in
theorem add_diff (w : World) (bn : Bool) (A A' : Option Addr) (n n' c c' : Nat) (x y : Nat) (z : Int) (h : Digs w (.slice A n c) (digs x)) (h' : Digs w (.slice A' n' c') (digs y))
    (hn : n ≤ 1000) (hn' : n' ≤ 1000) (hz : z = if bn then (y : Int) - x else (x : Int) - y) :
    Calls Try.prog 13 #[.agg #[.bool bn, .slice A n c], .agg #[.bool (!bn), .slice A' n' c']] w fun e w' => ∃ u, e = .returned u ∧ NumIs w' u z ∧ Below w.heap.size w w' := by
  have HL := Lib.hid h.len.1
  have HL' := Lib.hid h'.len.1
  have H := Lib.hid h
  have H' := Lib.hid h'
  obtain ⟨i0, hi, hz0, hz1, hz2⟩ := info_parts info_int
  cases bn
  · by_cases hxy : x < y
    · have hcm : cmpN x y = -1 := cmpN_lt hxy
      have HLE : Hid ((digs x).length ≤ (digs y).length) := digs_len_le (by omega)
      have HZ : Hid (z = if true = true then - ((y : Int) - x) else (y : Int) - x) := by
        show z = _
        rw [hz]; simp <;> omega
      have HXY : Hid (x ≤ y) := (by omega : x ≤ y)
      obtain ⟨cm, hcm1⟩ : ∃ cm, cm = cmpN x y := ⟨_, rfl⟩
      have hcm2 : cm < 0 := by rw [hcm1, hcm]; decide
      have HCM := Lib.hid hcm1
      clear h h' hz hcm1 hxy hcm
      go_enter Try.func13, Try.ntmps13
      go_wp2_with fail
      with_reducible refine (size_any _ _ _ x y (((H.out.alloc _).alloc _).alloc _) (((H'.out.alloc _).alloc _).alloc _)).mono ?_
      rw [← HCM.out]
      rintro e w' ⟨rfl, nd, rfl⟩
      obtain ⟨k0, k1, k2, k3, k4, k5⟩ := three_new w (.cells #[.bool false, .slice A n c] 25) (.cells #[.bool true, .slice A' n' c'] 25) (.cells #[.bool false, .slice none 0 0] 25) nd
      obtain ⟨W1, hW1⟩ : ∃ W1, W1 = (((w.alloc (.cells #[.bool false, .slice A n c] 25)).alloc (.cells #[.bool true, .slice A' n' c'] 25)).alloc (.cells #[.bool false, .slice none 0 0] 25)).drewN nd := ⟨_, rfl⟩
      rw [← hW1] at k0 k1 k2 k3 k4 ⊢
      clear hW1
      obtain ⟨a0, a1, af0, af1⟩ := blk2 k0
      obtain ⟨b0, b1, bf0, bf1⟩ := blk2 k1
      have K0 := Lib.hid k0
      have K1 := Lib.hid k1
      have K2 := Lib.hid k2
      have K4 := Lib.hid k4
      clear k0 k1 k2 k4 k5
      go_wp2_with fail
      clear a0 a1 af0 af1 b0 b1 bf0 bf1 hcm2 HCM
      obtain ⟨W0, hW0⟩ : ∃ W0, W0 = ((((W1.setCell ⟨w.heap.size, 0, none⟩ (.bool true)).setCell ⟨w.heap.size, 1, none⟩ (.slice A' n' c')).setCell ⟨w.heap.size + 1, 0, none⟩ (.bool false)).setCell ⟨w.heap.size + 1, 1, none⟩ (.slice A n c)).alloc (.cells #[.bool true, .slice none 0 0] 25) := ⟨_, rfl⟩
      have es : ((((W1.setCell ⟨w.heap.size, 0, none⟩ (.bool true)).setCell ⟨w.heap.size, 1, none⟩ (.slice A' n' c')).setCell ⟨w.heap.size + 1, 0, none⟩ (.bool false)).setCell ⟨w.heap.size + 1, 1, none⟩ (.slice A n c)).heap.size = w.heap.size + 1 + 1 + 1 := by simp only [size_setCell]; exact k3
      have kA : Hid (W0.heap[w.heap.size]? = some (.cells #[.bool true, .slice A' n' c'] 25 (0, 0))) := by rw [hW0]; exact block_old (block_set (block_set (blk_store2 K0.out _ _) (by simp) _) (by simp) _) _
      have kB : Hid (W0.heap[w.heap.size + 1]? = some (.cells #[.bool false, .slice A n c] 25 (0, 0))) := by rw [hW0]; exact block_old (blk_store2 (block_set (block_set K1.out (by simp) _) (by simp) _) _ _) _
      have kR : Hid (W0.heap[w.heap.size + 1 + 1]? = some (.cells #[.bool false, .slice none 0 0] 25 (0, 0))) := by rw [hW0]; exact block_old (block_set (block_set (block_set (block_set K2.out (by simp; omega) _) (by simp; omega) _) (by simp) _) (by simp) _) _
      have kO : Hid (W0.heap[w.heap.size + 1 + 1 + 1]? = some (.cells #[.bool true, .slice none 0 0] 25 (0, 0))) := by rw [hW0, ← es]; exact block_new _ _
      have hb0 : Below w.heap.size w W0 := by rw [hW0]; exact Below.alloc ((((K4.out.setCell (p := ⟨w.heap.size, 0, none⟩) (Nat.le_refl _) _).setCell (p := ⟨w.heap.size, 1, none⟩) (Nat.le_refl _) _).setCell (p := ⟨w.heap.size + 1, 0, none⟩) (Nat.le_succ _) _).setCell (p := ⟨w.heap.size + 1, 1, none⟩) (Nat.le_succ _) _) (by rw [es]; omega) _
      have hs0 : w.heap.size + 1 + 1 + 1 < W0.heap.size := by rw [hW0]; simp only [World.size_alloc]; rw [es]; omega
      rw [← hW0]
      clear hW0 es k3 K0 K1 K2 K4
      go_loopg [10, 11] n' (fun g sm si wx => ∃ (k : Nat) (m : Int) (os : List Int) (Ao : Option Addr) (co : Nat), g = n' - k ∧ k ≤ n' ∧ sm = .int .i64 m ∧ 0 ≤ m ∧ m ≤ 1 ∧ si = .int .i64 (k : Int) ∧
          OutAt wx (w.heap.size + 1 + 1 + 1) true os Ao co ∧ Below (w.heap.size + 1 + 1 + 1) W0 wx ∧ Hid (os.length = k ∧ InR os ∧ val os - bp k * m = val ((digs y).take k) - val ((digs x).take k)))
      case atStart => exact ⟨0, 0, [], none, 0, rfl, Nat.zero_le _, rfl, by decide, by decide, rfl, ⟨kO.out, World.ownsRow_nil _ _ _ _⟩, Below.refl _ _, rfl, InR.nil, by simp [val, bp]⟩
      case round =>
        obtain ⟨k, m, os, Ao, co, rfl, hk, rfl, hm0, hm1, rfl, hout, hbel, hinv⟩ := hrel
        have hsz := hbel.size
        obtain ⟨c0, c1, f0, f1⟩ := blk2 hout.1
        have jA := Lib.hid ((hbel.block _ (by omega)).trans kA.out)
        have jB := Lib.hid ((hbel.block _ (by omega)).trans kB.out)
        have jR := Lib.hid ((hbel.block _ (by omega)).trans kR.out)
        obtain ⟨a0, a1, af0, af1⟩ := blk2 jA.out
        obtain ⟨b0, b1, bf0, bf1⟩ := blk2 jB.out
        have HO := Lib.hid hout
        have hol : os.length ≤ 1000 := by have := hinv.out.1; omega
        have hbw : Below w.heap.size w wr := hb0.trans (hbel.mono (by omega))
        have HdA := Lib.hid (H'.out.below hbw (Nat.le_refl _))
        have HdB := Lib.hid (H.out.below hbw (Nat.le_refl _))
        clear hout af0 af1 bf0 bf1 a0 b0
        by_cases hlt : k < n'
        · obtain ⟨d, hd⟩ : ∃ d, d = (digs y).getD k 0 := ⟨_, rfl⟩
          obtain ⟨d', hd'⟩ : ∃ d, d = (digs x).getD k 0 := ⟨_, rfl⟩
          have hdr := (digs_inR y).getD k
          have hdr' := (digs_inR x).getD k
          rw [← hd] at hdr
          rw [← hd'] at hdr'
          obtain ⟨hd0, hd1⟩ := hdr
          obtain ⟨hd0', hd1'⟩ := hdr'
          have HD := Lib.hid hd
          have HD' := Lib.hid hd'
          clear hd hd'
          have hw1 : IntKind.i64.wrap (d - d') = d - d' := IntWalk.i64_in _ (by omega)
          have hw2 : IntKind.i64.wrap (d - d' - m) = d - d' - m := IntWalk.i64_in _ (by omega)
          go_wp2
          go_quiet ((go_at_call 38; first | with_reducible exact Calls.quiet_of_same (at_is (HdA.out.drewN _) _ HD) | with_reducible exact Calls.quiet_of_same (at_is (HdB.out.drewN _) _ HD')))
          obtain ⟨wq, hwq⟩ : ∃ wq, wq = wr.drewN nq := ⟨_, rfl⟩
          rw [← hwq]
          have hwq' : wq.heap.size = wr.heap.size := by rw [hwq]; rfl
          replace HO : Hid (OutAt wq (w.heap.size + 1 + 1 + 1) true os Ao co) := by rw [hwq]; exact HO.out.drewN _
          replace hbel : Below (w.heap.size + 1 + 1 + 1) W0 wq := by rw [hwq]; exact below_drewN hbel _
          clear hwq c0 c1 f0 f1 a1 b1 jA jB jR hbw HdA HdB hw1 hw2
          have hsq : w.heap.size + 1 + 1 + 1 < wq.heap.size := by omega
          clear hwq' hsz
          obtain ⟨c0, c1, f0, f1⟩ := blk2 HO.out.1
          have HB := Lib.hid hbel
          clear hbel
          obtain ⟨s, hs⟩ : ∃ s, s = d - d' - m := ⟨_, rfl⟩
          rw [← hs]
          have hs0' : -65536 ≤ s := by omega
          have hs1' : s ≤ 65535 := by omega
          have HS := Lib.hid hs
          clear hs
          by_cases hneg : s < 0
          · go_wp2_with (at_builtin; refine wpList_append_own _ rfl (.tmp 97) (.tmp 99) 23 rfl (w.heap.size + 1 + 1 + 1 + 1) 3 i0 (.int .i64 0) 1 8 Try.underlying23 hi hz0 hz1 hz2 rfl (by decide) _ _ _ rfl (HO.out.2.alloc _) ⟨wq.heap.size, 0, none⟩ 1 1 [.int .i64 (s + 65536)] rfl rfl (cell_one_new _ _ _) (by intro u hu; simp at hu; subst hu; rfl) (by unfold maxLen; omega) (by omega) (by simp; omega) ?_; intro v' w1 hown' hgrow _; obtain ⟨hb1, A1, c1', rfl⟩ := HO.out.grown hgrow hown'; obtain ⟨cc0, cc1, ff0, ff1⟩ := blk2 hb1)
            have hbel2 : Below (w.heap.size + 1 + 1 + 1) W0 w1 := (HB.out.alloc (by omega) _).grown hgrow (by simp; omega) (fun b hb => by have := (HO.out.2.lt b hb).1; omega)
            have hnew := OutAt.stored hb1 hown'
            have hinv2 : (os ++ [s + 65536]).length = k + 1 ∧ InR (os ++ [s + 65536]) ∧ val (os ++ [s + 65536]) - bp (k + 1) * 1 = val ((digs y).take (k + 1)) - val ((digs x).take (k + 1)) := by
              obtain ⟨h1, h2, h3⟩ := hinv.out
              refine ⟨by simp [h1], h2.snoc (by omega) (by omega), ?_⟩
              rw [val_snoc, h1, val_take_succ, val_take_succ (digs x), ← HD.out, ← HD'.out]
              exact sub_step1 _ _ _ _ _ _ _ _ HS.out h3
            clear hgrow hown' cc0 cc1 ff0 ff1 c0 c1 f0 f1 hb1
            go_roundg (n' - (k + 1))
            case measure => omega
            case rel => exact ⟨k + 1, 1, os ++ [s + 65536], A1, c1', rfl, by omega, rfl, by omega, by omega, by go_num, hnew, hbel2.setCell (p := ⟨w.heap.size + 1 + 1 + 1, 1, none⟩) (Nat.le_refl _) _, hinv2⟩
          · go_wp2_with (at_builtin; refine wpList_append_own _ rfl (.tmp 97) (.tmp 99) 23 rfl (w.heap.size + 1 + 1 + 1 + 1) 3 i0 (.int .i64 0) 1 8 Try.underlying23 hi hz0 hz1 hz2 rfl (by decide) _ _ _ rfl (HO.out.2.alloc _) ⟨wq.heap.size, 0, none⟩ 1 1 [.int .i64 (s)] rfl rfl (cell_one_new _ _ _) (by intro u hu; simp at hu; subst hu; rfl) (by unfold maxLen; omega) (by omega) (by simp; omega) ?_; intro v' w1 hown' hgrow _; obtain ⟨hb1, A1, c1', rfl⟩ := HO.out.grown hgrow hown'; obtain ⟨cc0, cc1, ff0, ff1⟩ := blk2 hb1)
            have hbel2 : Below (w.heap.size + 1 + 1 + 1) W0 w1 := (HB.out.alloc (by omega) _).grown hgrow (by simp; omega) (fun b hb => by have := (HO.out.2.lt b hb).1; omega)
            have hnew := OutAt.stored hb1 hown'
            have hinv2 : (os ++ [s]).length = k + 1 ∧ InR (os ++ [s]) ∧ val (os ++ [s]) - bp (k + 1) * 0 = val ((digs y).take (k + 1)) - val ((digs x).take (k + 1)) := by
              obtain ⟨h1, h2, h3⟩ := hinv.out
              refine ⟨by simp [h1], h2.snoc (by omega) (by omega), ?_⟩
              rw [val_snoc, h1, val_take_succ, val_take_succ (digs x), ← HD.out, ← HD'.out]
              exact sub_step0 _ _ _ _ _ _ _ _ HS.out h3
            clear hgrow hown' cc0 cc1 ff0 ff1 c0 c1 f0 f1 hb1
            go_roundg (n' - (k + 1))
            case measure => omega
            case rel => exact ⟨k + 1, 0, os ++ [s], A1, c1', rfl, by omega, rfl, by omega, by omega, by go_num, hnew, hbel2.setCell (p := ⟨w.heap.size + 1 + 1 + 1, 1, none⟩) (Nat.le_refl _) _, hinv2⟩
        · have hz3 : Hid (z = if true = true then - val os else val os) := by
            obtain ⟨h1, h2, h3⟩ := hinv.out
            have e1 := HL'.out
            have e2 := HL.out
            have e3 := HLE.out
            have e4 := HXY.out
            have e5 := val_lt h2
            rw [val_take_all (by omega), val_take_all (by omega), val_digs, val_digs] at h3
            rw [h1] at e5
            have e6 : m = 0 := by
              rcases (by omega : m = 0 ∨ m = 1) with h | h
              · exact h
              · subst h; omega
            subst e6
            have e7 : val os = (y : Int) - x := by omega
            show z = _
            rw [e7]; exact HZ.out
          have hkn : k = n' := by omega
          have hdig := HO.out.digs
          go_wp2_with (go_at_call 39; refine (clean_num _ _ _ os _ hdig hinv.out.2.1 hz3.out).mono ?_; rintro e w' ⟨u, rfl, ⟨A2, n2, c2', rfl, hdig2⟩, hbel2⟩; have hres3 := block_kept jR.out hbel2; obtain ⟨dd0, dd1, gg0, gg1⟩ := blk2 hres3)
          refine bodyPost_ret (v := .agg #[.bool (decide (z < 0)), .slice A2 n2 c2']) (by simp [results, Try.results13, go_sem, dd0, dd1]) rfl ⟨_, rfl, num_stored ⟨_, _, _, rfl, hdig2⟩ hres3 _ _, ?_⟩
          exact below_stored ((hb0.trans (hbel.mono (by omega))).trans (hbel2.mono (by omega))) (by omega) _ _
    · have HLE : Hid ((digs y).length ≤ (digs x).length) := digs_len_le (by omega)
      have HZ : Hid (z = if false = true then - ((x : Int) - y) else (x : Int) - y) := by
        show z = _
        rw [hz]; simp
      have HXY : Hid (y ≤ x) := (by omega : y ≤ x)
      obtain ⟨cm, hcm1⟩ : ∃ cm, cm = cmpN x y := ⟨_, rfl⟩
      have hcm2 : ¬ cm < 0 := by rw [hcm1]; unfold cmpN; rw [if_neg hxy]; split <;> decide
      have HCM := Lib.hid hcm1
      clear h h' hz hcm1 hxy
      go_enter Try.func13, Try.ntmps13
      go_wp2_with fail
      with_reducible refine (size_any _ _ _ x y (((H.out.alloc _).alloc _).alloc _) (((H'.out.alloc _).alloc _).alloc _)).mono ?_
      rw [← HCM.out]
      rintro e w' ⟨rfl, nd, rfl⟩
      obtain ⟨k0, k1, k2, k3, k4, k5⟩ := three_new w (.cells #[.bool false, .slice A n c] 25) (.cells #[.bool true, .slice A' n' c'] 25) (.cells #[.bool false, .slice none 0 0] 25) nd
      obtain ⟨W1, hW1⟩ : ∃ W1, W1 = (((w.alloc (.cells #[.bool false, .slice A n c] 25)).alloc (.cells #[.bool true, .slice A' n' c'] 25)).alloc (.cells #[.bool false, .slice none 0 0] 25)).drewN nd := ⟨_, rfl⟩
      rw [← hW1] at k0 k1 k2 k3 k4 ⊢
      clear hW1
      obtain ⟨a0, a1, af0, af1⟩ := blk2 k0
      obtain ⟨b0, b1, bf0, bf1⟩ := blk2 k1
      have K0 := Lib.hid k0
      have K1 := Lib.hid k1
      have K2 := Lib.hid k2
      have K4 := Lib.hid k4
      clear k0 k1 k2 k4 k5
      go_wp2_with fail
      clear a0 a1 af0 af1 b0 b1 bf0 bf1 hcm2 HCM
      obtain ⟨W0, hW0⟩ : ∃ W0, W0 = W1.alloc (.cells #[.bool false, .slice none 0 0] 25) := ⟨_, rfl⟩
      have es : W1.heap.size = w.heap.size + 1 + 1 + 1 := by exact k3
      have kA : Hid (W0.heap[w.heap.size]? = some (.cells #[.bool false, .slice A n c] 25 (0, 0))) := by rw [hW0]; exact block_old (K0.out) _
      have kB : Hid (W0.heap[w.heap.size + 1]? = some (.cells #[.bool true, .slice A' n' c'] 25 (0, 0))) := by rw [hW0]; exact block_old (K1.out) _
      have kR : Hid (W0.heap[w.heap.size + 1 + 1]? = some (.cells #[.bool false, .slice none 0 0] 25 (0, 0))) := by rw [hW0]; exact block_old (K2.out) _
      have kO : Hid (W0.heap[w.heap.size + 1 + 1 + 1]? = some (.cells #[.bool false, .slice none 0 0] 25 (0, 0))) := by rw [hW0, ← es]; exact block_new _ _
      have hb0 : Below w.heap.size w W0 := by rw [hW0]; exact Below.alloc (K4.out) (by rw [es]; omega) _
      have hs0 : w.heap.size + 1 + 1 + 1 < W0.heap.size := by rw [hW0]; simp only [World.size_alloc]; rw [es]; omega
      rw [← hW0]
      clear hW0 es k3 K0 K1 K2 K4
      go_loopg [10, 11] n (fun g sm si wx => ∃ (k : Nat) (m : Int) (os : List Int) (Ao : Option Addr) (co : Nat), g = n - k ∧ k ≤ n ∧ sm = .int .i64 m ∧ 0 ≤ m ∧ m ≤ 1 ∧ si = .int .i64 (k : Int) ∧
          OutAt wx (w.heap.size + 1 + 1 + 1) false os Ao co ∧ Below (w.heap.size + 1 + 1 + 1) W0 wx ∧ Hid (os.length = k ∧ InR os ∧ val os - bp k * m = val ((digs x).take k) - val ((digs y).take k)))
      case atStart => exact ⟨0, 0, [], none, 0, rfl, Nat.zero_le _, rfl, by decide, by decide, rfl, ⟨kO.out, World.ownsRow_nil _ _ _ _⟩, Below.refl _ _, rfl, InR.nil, by simp [val, bp]⟩
      case round =>
        obtain ⟨k, m, os, Ao, co, rfl, hk, rfl, hm0, hm1, rfl, hout, hbel, hinv⟩ := hrel
        have hsz := hbel.size
        obtain ⟨c0, c1, f0, f1⟩ := blk2 hout.1
        have jA := Lib.hid ((hbel.block _ (by omega)).trans kA.out)
        have jB := Lib.hid ((hbel.block _ (by omega)).trans kB.out)
        have jR := Lib.hid ((hbel.block _ (by omega)).trans kR.out)
        obtain ⟨a0, a1, af0, af1⟩ := blk2 jA.out
        obtain ⟨b0, b1, bf0, bf1⟩ := blk2 jB.out
        have HO := Lib.hid hout
        have hol : os.length ≤ 1000 := by have := hinv.out.1; omega
        have hbw : Below w.heap.size w wr := hb0.trans (hbel.mono (by omega))
        have HdA := Lib.hid (H.out.below hbw (Nat.le_refl _))
        have HdB := Lib.hid (H'.out.below hbw (Nat.le_refl _))
        clear hout af0 af1 bf0 bf1 a0 b0
        by_cases hlt : k < n
        · obtain ⟨d, hd⟩ : ∃ d, d = (digs x).getD k 0 := ⟨_, rfl⟩
          obtain ⟨d', hd'⟩ : ∃ d, d = (digs y).getD k 0 := ⟨_, rfl⟩
          have hdr := (digs_inR x).getD k
          have hdr' := (digs_inR y).getD k
          rw [← hd] at hdr
          rw [← hd'] at hdr'
          obtain ⟨hd0, hd1⟩ := hdr
          obtain ⟨hd0', hd1'⟩ := hdr'
          have HD := Lib.hid hd
          have HD' := Lib.hid hd'
          clear hd hd'
          have hw1 : IntKind.i64.wrap (d - d') = d - d' := IntWalk.i64_in _ (by omega)
          have hw2 : IntKind.i64.wrap (d - d' - m) = d - d' - m := IntWalk.i64_in _ (by omega)
          go_wp2
          go_quiet ((go_at_call 38; first | with_reducible exact Calls.quiet_of_same (at_is (HdA.out.drewN _) _ HD) | with_reducible exact Calls.quiet_of_same (at_is (HdB.out.drewN _) _ HD')))
          obtain ⟨wq, hwq⟩ : ∃ wq, wq = wr.drewN nq := ⟨_, rfl⟩
          rw [← hwq]
          have hwq' : wq.heap.size = wr.heap.size := by rw [hwq]; rfl
          replace HO : Hid (OutAt wq (w.heap.size + 1 + 1 + 1) false os Ao co) := by rw [hwq]; exact HO.out.drewN _
          replace hbel : Below (w.heap.size + 1 + 1 + 1) W0 wq := by rw [hwq]; exact below_drewN hbel _
          clear hwq c0 c1 f0 f1 a1 b1 jA jB jR hbw HdA HdB hw1 hw2
          have hsq : w.heap.size + 1 + 1 + 1 < wq.heap.size := by omega
          clear hwq' hsz
          obtain ⟨c0, c1, f0, f1⟩ := blk2 HO.out.1
          have HB := Lib.hid hbel
          clear hbel
          obtain ⟨s, hs⟩ : ∃ s, s = d - d' - m := ⟨_, rfl⟩
          rw [← hs]
          have hs0' : -65536 ≤ s := by omega
          have hs1' : s ≤ 65535 := by omega
          have HS := Lib.hid hs
          clear hs
          by_cases hneg : s < 0
          · go_wp2_with (at_builtin; refine wpList_append_own _ rfl (.tmp 97) (.tmp 99) 23 rfl (w.heap.size + 1 + 1 + 1 + 1) 3 i0 (.int .i64 0) 1 8 Try.underlying23 hi hz0 hz1 hz2 rfl (by decide) _ _ _ rfl (HO.out.2.alloc _) ⟨wq.heap.size, 0, none⟩ 1 1 [.int .i64 (s + 65536)] rfl rfl (cell_one_new _ _ _) (by intro u hu; simp at hu; subst hu; rfl) (by unfold maxLen; omega) (by omega) (by simp; omega) ?_; intro v' w1 hown' hgrow _; obtain ⟨hb1, A1, c1', rfl⟩ := HO.out.grown hgrow hown'; obtain ⟨cc0, cc1, ff0, ff1⟩ := blk2 hb1)
            have hbel2 : Below (w.heap.size + 1 + 1 + 1) W0 w1 := (HB.out.alloc (by omega) _).grown hgrow (by simp; omega) (fun b hb => by have := (HO.out.2.lt b hb).1; omega)
            have hnew := OutAt.stored hb1 hown'
            have hinv2 : (os ++ [s + 65536]).length = k + 1 ∧ InR (os ++ [s + 65536]) ∧ val (os ++ [s + 65536]) - bp (k + 1) * 1 = val ((digs x).take (k + 1)) - val ((digs y).take (k + 1)) := by
              obtain ⟨h1, h2, h3⟩ := hinv.out
              refine ⟨by simp [h1], h2.snoc (by omega) (by omega), ?_⟩
              rw [val_snoc, h1, val_take_succ, val_take_succ (digs y), ← HD.out, ← HD'.out]
              exact sub_step1 _ _ _ _ _ _ _ _ HS.out h3
            clear hgrow hown' cc0 cc1 ff0 ff1 c0 c1 f0 f1 hb1
            go_roundg (n - (k + 1))
            case measure => omega
            case rel => exact ⟨k + 1, 1, os ++ [s + 65536], A1, c1', rfl, by omega, rfl, by omega, by omega, by go_num, hnew, hbel2.setCell (p := ⟨w.heap.size + 1 + 1 + 1, 1, none⟩) (Nat.le_refl _) _, hinv2⟩
          · go_wp2_with (at_builtin; refine wpList_append_own _ rfl (.tmp 97) (.tmp 99) 23 rfl (w.heap.size + 1 + 1 + 1 + 1) 3 i0 (.int .i64 0) 1 8 Try.underlying23 hi hz0 hz1 hz2 rfl (by decide) _ _ _ rfl (HO.out.2.alloc _) ⟨wq.heap.size, 0, none⟩ 1 1 [.int .i64 (s)] rfl rfl (cell_one_new _ _ _) (by intro u hu; simp at hu; subst hu; rfl) (by unfold maxLen; omega) (by omega) (by simp; omega) ?_; intro v' w1 hown' hgrow _; obtain ⟨hb1, A1, c1', rfl⟩ := HO.out.grown hgrow hown'; obtain ⟨cc0, cc1, ff0, ff1⟩ := blk2 hb1)
            have hbel2 : Below (w.heap.size + 1 + 1 + 1) W0 w1 := (HB.out.alloc (by omega) _).grown hgrow (by simp; omega) (fun b hb => by have := (HO.out.2.lt b hb).1; omega)
            have hnew := OutAt.stored hb1 hown'
            have hinv2 : (os ++ [s]).length = k + 1 ∧ InR (os ++ [s]) ∧ val (os ++ [s]) - bp (k + 1) * 0 = val ((digs x).take (k + 1)) - val ((digs y).take (k + 1)) := by
              obtain ⟨h1, h2, h3⟩ := hinv.out
              refine ⟨by simp [h1], h2.snoc (by omega) (by omega), ?_⟩
              rw [val_snoc, h1, val_take_succ, val_take_succ (digs y), ← HD.out, ← HD'.out]
              exact sub_step0 _ _ _ _ _ _ _ _ HS.out h3
            clear hgrow hown' cc0 cc1 ff0 ff1 c0 c1 f0 f1 hb1
            go_roundg (n - (k + 1))
            case measure => omega
            case rel => exact ⟨k + 1, 0, os ++ [s], A1, c1', rfl, by omega, rfl, by omega, by omega, by go_num, hnew, hbel2.setCell (p := ⟨w.heap.size + 1 + 1 + 1, 1, none⟩) (Nat.le_refl _) _, hinv2⟩
        · have hz3 : Hid (z = if false = true then - val os else val os) := by
            obtain ⟨h1, h2, h3⟩ := hinv.out
            have e1 := HL.out
            have e2 := HL'.out
            have e3 := HLE.out
            have e4 := HXY.out
            have e5 := val_lt h2
            rw [val_take_all (by omega), val_take_all (by omega), val_digs, val_digs] at h3
            rw [h1] at e5
            have e6 : m = 0 := by
              rcases (by omega : m = 0 ∨ m = 1) with h | h
              · exact h
              · subst h; omega
            subst e6
            have e7 : val os = (x : Int) - y := by omega
            show z = _
            rw [e7]; exact HZ.out
          have hkn : k = n := by omega
          have hdig := HO.out.digs
          go_wp2_with (go_at_call 39; refine (clean_num _ _ _ os _ hdig hinv.out.2.1 hz3.out).mono ?_; rintro e w' ⟨u, rfl, ⟨A2, n2, c2', rfl, hdig2⟩, hbel2⟩; have hres3 := block_kept jR.out hbel2; obtain ⟨dd0, dd1, gg0, gg1⟩ := blk2 hres3)
          refine bodyPost_ret (v := .agg #[.bool (decide (z < 0)), .slice A2 n2 c2']) (by simp [results, Try.results13, go_sem, dd0, dd1]) rfl ⟨_, rfl, num_stored ⟨_, _, _, rfl, hdig2⟩ hres3 _ _, ?_⟩
          exact below_stored ((hb0.trans (hbel.mono (by omega))).trans (hbel2.mono (by omega))) (by omega) _ _
  · by_cases hxy : x < y
    · have hcm : cmpN x y = -1 := cmpN_lt hxy
      have HLE : Hid ((digs x).length ≤ (digs y).length) := digs_len_le (by omega)
      have HZ : Hid (z = if false = true then - ((y : Int) - x) else (y : Int) - x) := by
        show z = _
        rw [hz]; simp
      have HXY : Hid (x ≤ y) := (by omega : x ≤ y)
      obtain ⟨cm, hcm1⟩ : ∃ cm, cm = cmpN x y := ⟨_, rfl⟩
      have hcm2 : cm < 0 := by rw [hcm1, hcm]; decide
      have HCM := Lib.hid hcm1
      clear h h' hz hcm1 hxy hcm
      go_enter Try.func13, Try.ntmps13
      go_wp2_with fail
      with_reducible refine (size_any _ _ _ x y (((H.out.alloc _).alloc _).alloc _) (((H'.out.alloc _).alloc _).alloc _)).mono ?_
      rw [← HCM.out]
      rintro e w' ⟨rfl, nd, rfl⟩
      obtain ⟨k0, k1, k2, k3, k4, k5⟩ := three_new w (.cells #[.bool true, .slice A n c] 25) (.cells #[.bool false, .slice A' n' c'] 25) (.cells #[.bool false, .slice none 0 0] 25) nd
      obtain ⟨W1, hW1⟩ : ∃ W1, W1 = (((w.alloc (.cells #[.bool true, .slice A n c] 25)).alloc (.cells #[.bool false, .slice A' n' c'] 25)).alloc (.cells #[.bool false, .slice none 0 0] 25)).drewN nd := ⟨_, rfl⟩
      rw [← hW1] at k0 k1 k2 k3 k4 ⊢
      clear hW1
      obtain ⟨a0, a1, af0, af1⟩ := blk2 k0
      obtain ⟨b0, b1, bf0, bf1⟩ := blk2 k1
      have K0 := Lib.hid k0
      have K1 := Lib.hid k1
      have K2 := Lib.hid k2
      have K4 := Lib.hid k4
      clear k0 k1 k2 k4 k5
      go_wp2_with fail
      clear a0 a1 af0 af1 b0 b1 bf0 bf1 hcm2 HCM
      obtain ⟨W0, hW0⟩ : ∃ W0, W0 = ((((W1.setCell ⟨w.heap.size, 0, none⟩ (.bool false)).setCell ⟨w.heap.size, 1, none⟩ (.slice A' n' c')).setCell ⟨w.heap.size + 1, 0, none⟩ (.bool true)).setCell ⟨w.heap.size + 1, 1, none⟩ (.slice A n c)).alloc (.cells #[.bool false, .slice none 0 0] 25) := ⟨_, rfl⟩
      have es : ((((W1.setCell ⟨w.heap.size, 0, none⟩ (.bool false)).setCell ⟨w.heap.size, 1, none⟩ (.slice A' n' c')).setCell ⟨w.heap.size + 1, 0, none⟩ (.bool true)).setCell ⟨w.heap.size + 1, 1, none⟩ (.slice A n c)).heap.size = w.heap.size + 1 + 1 + 1 := by simp only [size_setCell]; exact k3
      have kA : Hid (W0.heap[w.heap.size]? = some (.cells #[.bool false, .slice A' n' c'] 25 (0, 0))) := by rw [hW0]; exact block_old (block_set (block_set (blk_store2 K0.out _ _) (by simp) _) (by simp) _) _
      have kB : Hid (W0.heap[w.heap.size + 1]? = some (.cells #[.bool true, .slice A n c] 25 (0, 0))) := by rw [hW0]; exact block_old (blk_store2 (block_set (block_set K1.out (by simp) _) (by simp) _) _ _) _
      have kR : Hid (W0.heap[w.heap.size + 1 + 1]? = some (.cells #[.bool false, .slice none 0 0] 25 (0, 0))) := by rw [hW0]; exact block_old (block_set (block_set (block_set (block_set K2.out (by simp; omega) _) (by simp; omega) _) (by simp) _) (by simp) _) _
      have kO : Hid (W0.heap[w.heap.size + 1 + 1 + 1]? = some (.cells #[.bool false, .slice none 0 0] 25 (0, 0))) := by rw [hW0, ← es]; exact block_new _ _
      have hb0 : Below w.heap.size w W0 := by rw [hW0]; exact Below.alloc ((((K4.out.setCell (p := ⟨w.heap.size, 0, none⟩) (Nat.le_refl _) _).setCell (p := ⟨w.heap.size, 1, none⟩) (Nat.le_refl _) _).setCell (p := ⟨w.heap.size + 1, 0, none⟩) (Nat.le_succ _) _).setCell (p := ⟨w.heap.size + 1, 1, none⟩) (Nat.le_succ _) _) (by rw [es]; omega) _
      have hs0 : w.heap.size + 1 + 1 + 1 < W0.heap.size := by rw [hW0]; simp only [World.size_alloc]; rw [es]; omega
      rw [← hW0]
      clear hW0 es k3 K0 K1 K2 K4
      go_loopg [10, 11] n' (fun g sm si wx => ∃ (k : Nat) (m : Int) (os : List Int) (Ao : Option Addr) (co : Nat), g = n' - k ∧ k ≤ n' ∧ sm = .int .i64 m ∧ 0 ≤ m ∧ m ≤ 1 ∧ si = .int .i64 (k : Int) ∧
          OutAt wx (w.heap.size + 1 + 1 + 1) false os Ao co ∧ Below (w.heap.size + 1 + 1 + 1) W0 wx ∧ Hid (os.length = k ∧ InR os ∧ val os - bp k * m = val ((digs y).take k) - val ((digs x).take k)))
      case atStart => exact ⟨0, 0, [], none, 0, rfl, Nat.zero_le _, rfl, by decide, by decide, rfl, ⟨kO.out, World.ownsRow_nil _ _ _ _⟩, Below.refl _ _, rfl, InR.nil, by simp [val, bp]⟩
      case round =>
        obtain ⟨k, m, os, Ao, co, rfl, hk, rfl, hm0, hm1, rfl, hout, hbel, hinv⟩ := hrel
        have hsz := hbel.size
        obtain ⟨c0, c1, f0, f1⟩ := blk2 hout.1
        have jA := Lib.hid ((hbel.block _ (by omega)).trans kA.out)
        have jB := Lib.hid ((hbel.block _ (by omega)).trans kB.out)
        have jR := Lib.hid ((hbel.block _ (by omega)).trans kR.out)
        obtain ⟨a0, a1, af0, af1⟩ := blk2 jA.out
        obtain ⟨b0, b1, bf0, bf1⟩ := blk2 jB.out
        have HO := Lib.hid hout
        have hol : os.length ≤ 1000 := by have := hinv.out.1; omega
        have hbw : Below w.heap.size w wr := hb0.trans (hbel.mono (by omega))
        have HdA := Lib.hid (H'.out.below hbw (Nat.le_refl _))
        have HdB := Lib.hid (H.out.below hbw (Nat.le_refl _))
        clear hout af0 af1 bf0 bf1 a0 b0
        by_cases hlt : k < n'
        · obtain ⟨d, hd⟩ : ∃ d, d = (digs y).getD k 0 := ⟨_, rfl⟩
          obtain ⟨d', hd'⟩ : ∃ d, d = (digs x).getD k 0 := ⟨_, rfl⟩
          have hdr := (digs_inR y).getD k
          have hdr' := (digs_inR x).getD k
          rw [← hd] at hdr
          rw [← hd'] at hdr'
          obtain ⟨hd0, hd1⟩ := hdr
          obtain ⟨hd0', hd1'⟩ := hdr'
          have HD := Lib.hid hd
          have HD' := Lib.hid hd'
          clear hd hd'
          have hw1 : IntKind.i64.wrap (d - d') = d - d' := IntWalk.i64_in _ (by omega)
          have hw2 : IntKind.i64.wrap (d - d' - m) = d - d' - m := IntWalk.i64_in _ (by omega)
          go_wp2
          go_quiet ((go_at_call 38; first | with_reducible exact Calls.quiet_of_same (at_is (HdA.out.drewN _) _ HD) | with_reducible exact Calls.quiet_of_same (at_is (HdB.out.drewN _) _ HD')))
          obtain ⟨wq, hwq⟩ : ∃ wq, wq = wr.drewN nq := ⟨_, rfl⟩
          rw [← hwq]
          have hwq' : wq.heap.size = wr.heap.size := by rw [hwq]; rfl
          replace HO : Hid (OutAt wq (w.heap.size + 1 + 1 + 1) false os Ao co) := by rw [hwq]; exact HO.out.drewN _
          replace hbel : Below (w.heap.size + 1 + 1 + 1) W0 wq := by rw [hwq]; exact below_drewN hbel _
          clear hwq c0 c1 f0 f1 a1 b1 jA jB jR hbw HdA HdB hw1 hw2
          have hsq : w.heap.size + 1 + 1 + 1 < wq.heap.size := by omega
          clear hwq' hsz
          obtain ⟨c0, c1, f0, f1⟩ := blk2 HO.out.1
          have HB := Lib.hid hbel
          clear hbel
          obtain ⟨s, hs⟩ : ∃ s, s = d - d' - m := ⟨_, rfl⟩
          rw [← hs]
          have hs0' : -65536 ≤ s := by omega
          have hs1' : s ≤ 65535 := by omega
          have HS := Lib.hid hs
          clear hs
          by_cases hneg : s < 0
          · go_wp2_with (at_builtin; refine wpList_append_own _ rfl (.tmp 97) (.tmp 99) 23 rfl (w.heap.size + 1 + 1 + 1 + 1) 3 i0 (.int .i64 0) 1 8 Try.underlying23 hi hz0 hz1 hz2 rfl (by decide) _ _ _ rfl (HO.out.2.alloc _) ⟨wq.heap.size, 0, none⟩ 1 1 [.int .i64 (s + 65536)] rfl rfl (cell_one_new _ _ _) (by intro u hu; simp at hu; subst hu; rfl) (by unfold maxLen; omega) (by omega) (by simp; omega) ?_; intro v' w1 hown' hgrow _; obtain ⟨hb1, A1, c1', rfl⟩ := HO.out.grown hgrow hown'; obtain ⟨cc0, cc1, ff0, ff1⟩ := blk2 hb1)
            have hbel2 : Below (w.heap.size + 1 + 1 + 1) W0 w1 := (HB.out.alloc (by omega) _).grown hgrow (by simp; omega) (fun b hb => by have := (HO.out.2.lt b hb).1; omega)
            have hnew := OutAt.stored hb1 hown'
            have hinv2 : (os ++ [s + 65536]).length = k + 1 ∧ InR (os ++ [s + 65536]) ∧ val (os ++ [s + 65536]) - bp (k + 1) * 1 = val ((digs y).take (k + 1)) - val ((digs x).take (k + 1)) := by
              obtain ⟨h1, h2, h3⟩ := hinv.out
              refine ⟨by simp [h1], h2.snoc (by omega) (by omega), ?_⟩
              rw [val_snoc, h1, val_take_succ, val_take_succ (digs x), ← HD.out, ← HD'.out]
              exact sub_step1 _ _ _ _ _ _ _ _ HS.out h3
            clear hgrow hown' cc0 cc1 ff0 ff1 c0 c1 f0 f1 hb1
            go_roundg (n' - (k + 1))
            case measure => omega
            case rel => exact ⟨k + 1, 1, os ++ [s + 65536], A1, c1', rfl, by omega, rfl, by omega, by omega, by go_num, hnew, hbel2.setCell (p := ⟨w.heap.size + 1 + 1 + 1, 1, none⟩) (Nat.le_refl _) _, hinv2⟩
          · go_wp2_with (at_builtin; refine wpList_append_own _ rfl (.tmp 97) (.tmp 99) 23 rfl (w.heap.size + 1 + 1 + 1 + 1) 3 i0 (.int .i64 0) 1 8 Try.underlying23 hi hz0 hz1 hz2 rfl (by decide) _ _ _ rfl (HO.out.2.alloc _) ⟨wq.heap.size, 0, none⟩ 1 1 [.int .i64 (s)] rfl rfl (cell_one_new _ _ _) (by intro u hu; simp at hu; subst hu; rfl) (by unfold maxLen; omega) (by omega) (by simp; omega) ?_; intro v' w1 hown' hgrow _; obtain ⟨hb1, A1, c1', rfl⟩ := HO.out.grown hgrow hown'; obtain ⟨cc0, cc1, ff0, ff1⟩ := blk2 hb1)
            have hbel2 : Below (w.heap.size + 1 + 1 + 1) W0 w1 := (HB.out.alloc (by omega) _).grown hgrow (by simp; omega) (fun b hb => by have := (HO.out.2.lt b hb).1; omega)
            have hnew := OutAt.stored hb1 hown'
            have hinv2 : (os ++ [s]).length = k + 1 ∧ InR (os ++ [s]) ∧ val (os ++ [s]) - bp (k + 1) * 0 = val ((digs y).take (k + 1)) - val ((digs x).take (k + 1)) := by
              obtain ⟨h1, h2, h3⟩ := hinv.out
              refine ⟨by simp [h1], h2.snoc (by omega) (by omega), ?_⟩
              rw [val_snoc, h1, val_take_succ, val_take_succ (digs x), ← HD.out, ← HD'.out]
              exact sub_step0 _ _ _ _ _ _ _ _ HS.out h3
            clear hgrow hown' cc0 cc1 ff0 ff1 c0 c1 f0 f1 hb1
            go_roundg (n' - (k + 1))
            case measure => omega
            case rel => exact ⟨k + 1, 0, os ++ [s], A1, c1', rfl, by omega, rfl, by omega, by omega, by go_num, hnew, hbel2.setCell (p := ⟨w.heap.size + 1 + 1 + 1, 1, none⟩) (Nat.le_refl _) _, hinv2⟩
        · have hz3 : Hid (z = if false = true then - val os else val os) := by
            obtain ⟨h1, h2, h3⟩ := hinv.out
            have e1 := HL'.out
            have e2 := HL.out
            have e3 := HLE.out
            have e4 := HXY.out
            have e5 := val_lt h2
            rw [val_take_all (by omega), val_take_all (by omega), val_digs, val_digs] at h3
            rw [h1] at e5
            have e6 : m = 0 := by
              rcases (by omega : m = 0 ∨ m = 1) with h | h
              · exact h
              · subst h; omega
            subst e6
            have e7 : val os = (y : Int) - x := by omega
            show z = _
            rw [e7]; exact HZ.out
          have hkn : k = n' := by omega
          have hdig := HO.out.digs
          go_wp2_with (go_at_call 39; refine (clean_num _ _ _ os _ hdig hinv.out.2.1 hz3.out).mono ?_; rintro e w' ⟨u, rfl, ⟨A2, n2, c2', rfl, hdig2⟩, hbel2⟩; have hres3 := block_kept jR.out hbel2; obtain ⟨dd0, dd1, gg0, gg1⟩ := blk2 hres3)
          refine bodyPost_ret (v := .agg #[.bool (decide (z < 0)), .slice A2 n2 c2']) (by simp [results, Try.results13, go_sem, dd0, dd1]) rfl ⟨_, rfl, num_stored ⟨_, _, _, rfl, hdig2⟩ hres3 _ _, ?_⟩
          exact below_stored ((hb0.trans (hbel.mono (by omega))).trans (hbel2.mono (by omega))) (by omega) _ _
    · have HLE : Hid ((digs y).length ≤ (digs x).length) := digs_len_le (by omega)
      have HZ : Hid (z = if true = true then - ((x : Int) - y) else (x : Int) - y) := by
        show z = _
        rw [hz]; simp <;> omega
      have HXY : Hid (y ≤ x) := (by omega : y ≤ x)
      obtain ⟨cm, hcm1⟩ : ∃ cm, cm = cmpN x y := ⟨_, rfl⟩
      have hcm2 : ¬ cm < 0 := by rw [hcm1]; unfold cmpN; rw [if_neg hxy]; split <;> decide
      have HCM := Lib.hid hcm1
      clear h h' hz hcm1 hxy
      go_enter Try.func13, Try.ntmps13
      go_wp2_with fail
      with_reducible refine (size_any _ _ _ x y (((H.out.alloc _).alloc _).alloc _) (((H'.out.alloc _).alloc _).alloc _)).mono ?_
      rw [← HCM.out]
      rintro e w' ⟨rfl, nd, rfl⟩
      obtain ⟨k0, k1, k2, k3, k4, k5⟩ := three_new w (.cells #[.bool true, .slice A n c] 25) (.cells #[.bool false, .slice A' n' c'] 25) (.cells #[.bool false, .slice none 0 0] 25) nd
      obtain ⟨W1, hW1⟩ : ∃ W1, W1 = (((w.alloc (.cells #[.bool true, .slice A n c] 25)).alloc (.cells #[.bool false, .slice A' n' c'] 25)).alloc (.cells #[.bool false, .slice none 0 0] 25)).drewN nd := ⟨_, rfl⟩
      rw [← hW1] at k0 k1 k2 k3 k4 ⊢
      clear hW1
      obtain ⟨a0, a1, af0, af1⟩ := blk2 k0
      obtain ⟨b0, b1, bf0, bf1⟩ := blk2 k1
      have K0 := Lib.hid k0
      have K1 := Lib.hid k1
      have K2 := Lib.hid k2
      have K4 := Lib.hid k4
      clear k0 k1 k2 k4 k5
      go_wp2_with fail
      clear a0 a1 af0 af1 b0 b1 bf0 bf1 hcm2 HCM
      obtain ⟨W0, hW0⟩ : ∃ W0, W0 = W1.alloc (.cells #[.bool true, .slice none 0 0] 25) := ⟨_, rfl⟩
      have es : W1.heap.size = w.heap.size + 1 + 1 + 1 := by exact k3
      have kA : Hid (W0.heap[w.heap.size]? = some (.cells #[.bool true, .slice A n c] 25 (0, 0))) := by rw [hW0]; exact block_old (K0.out) _
      have kB : Hid (W0.heap[w.heap.size + 1]? = some (.cells #[.bool false, .slice A' n' c'] 25 (0, 0))) := by rw [hW0]; exact block_old (K1.out) _
      have kR : Hid (W0.heap[w.heap.size + 1 + 1]? = some (.cells #[.bool false, .slice none 0 0] 25 (0, 0))) := by rw [hW0]; exact block_old (K2.out) _
      have kO : Hid (W0.heap[w.heap.size + 1 + 1 + 1]? = some (.cells #[.bool true, .slice none 0 0] 25 (0, 0))) := by rw [hW0, ← es]; exact block_new _ _
      have hb0 : Below w.heap.size w W0 := by rw [hW0]; exact Below.alloc (K4.out) (by rw [es]; omega) _
      have hs0 : w.heap.size + 1 + 1 + 1 < W0.heap.size := by rw [hW0]; simp only [World.size_alloc]; rw [es]; omega
      rw [← hW0]
      clear hW0 es k3 K0 K1 K2 K4
      go_loopg [10, 11] n (fun g sm si wx => ∃ (k : Nat) (m : Int) (os : List Int) (Ao : Option Addr) (co : Nat), g = n - k ∧ k ≤ n ∧ sm = .int .i64 m ∧ 0 ≤ m ∧ m ≤ 1 ∧ si = .int .i64 (k : Int) ∧
          OutAt wx (w.heap.size + 1 + 1 + 1) true os Ao co ∧ Below (w.heap.size + 1 + 1 + 1) W0 wx ∧ Hid (os.length = k ∧ InR os ∧ val os - bp k * m = val ((digs x).take k) - val ((digs y).take k)))
      case atStart => exact ⟨0, 0, [], none, 0, rfl, Nat.zero_le _, rfl, by decide, by decide, rfl, ⟨kO.out, World.ownsRow_nil _ _ _ _⟩, Below.refl _ _, rfl, InR.nil, by simp [val, bp]⟩
      case round =>
        obtain ⟨k, m, os, Ao, co, rfl, hk, rfl, hm0, hm1, rfl, hout, hbel, hinv⟩ := hrel
        have hsz := hbel.size
        obtain ⟨c0, c1, f0, f1⟩ := blk2 hout.1
        have jA := Lib.hid ((hbel.block _ (by omega)).trans kA.out)
        have jB := Lib.hid ((hbel.block _ (by omega)).trans kB.out)
        have jR := Lib.hid ((hbel.block _ (by omega)).trans kR.out)
        obtain ⟨a0, a1, af0, af1⟩ := blk2 jA.out
        obtain ⟨b0, b1, bf0, bf1⟩ := blk2 jB.out
        have HO := Lib.hid hout
        have hol : os.length ≤ 1000 := by have := hinv.out.1; omega
        have hbw : Below w.heap.size w wr := hb0.trans (hbel.mono (by omega))
        have HdA := Lib.hid (H.out.below hbw (Nat.le_refl _))
        have HdB := Lib.hid (H'.out.below hbw (Nat.le_refl _))
        clear hout af0 af1 bf0 bf1 a0 b0
        by_cases hlt : k < n
        · obtain ⟨d, hd⟩ : ∃ d, d = (digs x).getD k 0 := ⟨_, rfl⟩
          obtain ⟨d', hd'⟩ : ∃ d, d = (digs y).getD k 0 := ⟨_, rfl⟩
          have hdr := (digs_inR x).getD k
          have hdr' := (digs_inR y).getD k
          rw [← hd] at hdr
          rw [← hd'] at hdr'
          obtain ⟨hd0, hd1⟩ := hdr
          obtain ⟨hd0', hd1'⟩ := hdr'
          have HD := Lib.hid hd
          have HD' := Lib.hid hd'
          clear hd hd'
          have hw1 : IntKind.i64.wrap (d - d') = d - d' := IntWalk.i64_in _ (by omega)
          have hw2 : IntKind.i64.wrap (d - d' - m) = d - d' - m := IntWalk.i64_in _ (by omega)
          go_wp2
          go_quiet ((go_at_call 38; first | with_reducible exact Calls.quiet_of_same (at_is (HdA.out.drewN _) _ HD) | with_reducible exact Calls.quiet_of_same (at_is (HdB.out.drewN _) _ HD')))
          obtain ⟨wq, hwq⟩ : ∃ wq, wq = wr.drewN nq := ⟨_, rfl⟩
          rw [← hwq]
          have hwq' : wq.heap.size = wr.heap.size := by rw [hwq]; rfl
          replace HO : Hid (OutAt wq (w.heap.size + 1 + 1 + 1) true os Ao co) := by rw [hwq]; exact HO.out.drewN _
          replace hbel : Below (w.heap.size + 1 + 1 + 1) W0 wq := by rw [hwq]; exact below_drewN hbel _
          clear hwq c0 c1 f0 f1 a1 b1 jA jB jR hbw HdA HdB hw1 hw2
          have hsq : w.heap.size + 1 + 1 + 1 < wq.heap.size := by omega
          clear hwq' hsz
          obtain ⟨c0, c1, f0, f1⟩ := blk2 HO.out.1
          have HB := Lib.hid hbel
          clear hbel
          obtain ⟨s, hs⟩ : ∃ s, s = d - d' - m := ⟨_, rfl⟩
          rw [← hs]
          have hs0' : -65536 ≤ s := by omega
          have hs1' : s ≤ 65535 := by omega
          have HS := Lib.hid hs
          clear hs
          by_cases hneg : s < 0
          · go_wp2_with (at_builtin; refine wpList_append_own _ rfl (.tmp 97) (.tmp 99) 23 rfl (w.heap.size + 1 + 1 + 1 + 1) 3 i0 (.int .i64 0) 1 8 Try.underlying23 hi hz0 hz1 hz2 rfl (by decide) _ _ _ rfl (HO.out.2.alloc _) ⟨wq.heap.size, 0, none⟩ 1 1 [.int .i64 (s + 65536)] rfl rfl (cell_one_new _ _ _) (by intro u hu; simp at hu; subst hu; rfl) (by unfold maxLen; omega) (by omega) (by simp; omega) ?_; intro v' w1 hown' hgrow _; obtain ⟨hb1, A1, c1', rfl⟩ := HO.out.grown hgrow hown'; obtain ⟨cc0, cc1, ff0, ff1⟩ := blk2 hb1)
            have hbel2 : Below (w.heap.size + 1 + 1 + 1) W0 w1 := (HB.out.alloc (by omega) _).grown hgrow (by simp; omega) (fun b hb => by have := (HO.out.2.lt b hb).1; omega)
            have hnew := OutAt.stored hb1 hown'
            have hinv2 : (os ++ [s + 65536]).length = k + 1 ∧ InR (os ++ [s + 65536]) ∧ val (os ++ [s + 65536]) - bp (k + 1) * 1 = val ((digs x).take (k + 1)) - val ((digs y).take (k + 1)) := by
              obtain ⟨h1, h2, h3⟩ := hinv.out
              refine ⟨by simp [h1], h2.snoc (by omega) (by omega), ?_⟩
              rw [val_snoc, h1, val_take_succ, val_take_succ (digs y), ← HD.out, ← HD'.out]
              exact sub_step1 _ _ _ _ _ _ _ _ HS.out h3
            clear hgrow hown' cc0 cc1 ff0 ff1 c0 c1 f0 f1 hb1
            go_roundg (n - (k + 1))
            case measure => omega
            case rel => exact ⟨k + 1, 1, os ++ [s + 65536], A1, c1', rfl, by omega, rfl, by omega, by omega, by go_num, hnew, hbel2.setCell (p := ⟨w.heap.size + 1 + 1 + 1, 1, none⟩) (Nat.le_refl _) _, hinv2⟩
          · go_wp2_with (at_builtin; refine wpList_append_own _ rfl (.tmp 97) (.tmp 99) 23 rfl (w.heap.size + 1 + 1 + 1 + 1) 3 i0 (.int .i64 0) 1 8 Try.underlying23 hi hz0 hz1 hz2 rfl (by decide) _ _ _ rfl (HO.out.2.alloc _) ⟨wq.heap.size, 0, none⟩ 1 1 [.int .i64 (s)] rfl rfl (cell_one_new _ _ _) (by intro u hu; simp at hu; subst hu; rfl) (by unfold maxLen; omega) (by omega) (by simp; omega) ?_; intro v' w1 hown' hgrow _; obtain ⟨hb1, A1, c1', rfl⟩ := HO.out.grown hgrow hown'; obtain ⟨cc0, cc1, ff0, ff1⟩ := blk2 hb1)
            have hbel2 : Below (w.heap.size + 1 + 1 + 1) W0 w1 := (HB.out.alloc (by omega) _).grown hgrow (by simp; omega) (fun b hb => by have := (HO.out.2.lt b hb).1; omega)
            have hnew := OutAt.stored hb1 hown'
            have hinv2 : (os ++ [s]).length = k + 1 ∧ InR (os ++ [s]) ∧ val (os ++ [s]) - bp (k + 1) * 0 = val ((digs x).take (k + 1)) - val ((digs y).take (k + 1)) := by
              obtain ⟨h1, h2, h3⟩ := hinv.out
              refine ⟨by simp [h1], h2.snoc (by omega) (by omega), ?_⟩
              rw [val_snoc, h1, val_take_succ, val_take_succ (digs y), ← HD.out, ← HD'.out]
              exact sub_step0 _ _ _ _ _ _ _ _ HS.out h3
            clear hgrow hown' cc0 cc1 ff0 ff1 c0 c1 f0 f1 hb1
            go_roundg (n - (k + 1))
            case measure => omega
            case rel => exact ⟨k + 1, 0, os ++ [s], A1, c1', rfl, by omega, rfl, by omega, by omega, by go_num, hnew, hbel2.setCell (p := ⟨w.heap.size + 1 + 1 + 1, 1, none⟩) (Nat.le_refl _) _, hinv2⟩
        · have hz3 : Hid (z = if true = true then - val os else val os) := by
            obtain ⟨h1, h2, h3⟩ := hinv.out
            have e1 := HL.out
            have e2 := HL'.out
            have e3 := HLE.out
            have e4 := HXY.out
            have e5 := val_lt h2
            rw [val_take_all (by omega), val_take_all (by omega), val_digs, val_digs] at h3
            rw [h1] at e5
            have e6 : m = 0 := by
              rcases (by omega : m = 0 ∨ m = 1) with h | h
              · exact h
              · subst h; omega
            subst e6
            have e7 : val os = (x : Int) - y := by omega
            show z = _
            rw [e7]; exact HZ.out
          have hkn : k = n := by omega
          have hdig := HO.out.digs
          go_wp2_with (go_at_call 39; refine (clean_num _ _ _ os _ hdig hinv.out.2.1 hz3.out).mono ?_; rintro e w' ⟨u, rfl, ⟨A2, n2, c2', rfl, hdig2⟩, hbel2⟩; have hres3 := block_kept jR.out hbel2; obtain ⟨dd0, dd1, gg0, gg1⟩ := blk2 hres3)
          refine bodyPost_ret (v := .agg #[.bool (decide (z < 0)), .slice A2 n2 c2']) (by simp [results, Try.results13, go_sem, dd0, dd1]) rfl ⟨_, rfl, num_stored ⟨_, _, _, rfl, hdig2⟩ hres3 _ _, ?_⟩
          exact below_stored ((hb0.trans (hbel.mono (by omega))).trans (hbel2.mono (by omega))) (by omega) _ _

end Go.Proofs.Ytjnohdkpkbiclaa
