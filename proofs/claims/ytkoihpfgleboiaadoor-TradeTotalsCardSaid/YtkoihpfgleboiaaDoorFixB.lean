/-
  Texts of earlier layers that this seat's laws call, besides FixA (by program).
-/
import Derived.Test.YtkoihpfgleboiaaDoorFixA
import Derived.WalkKit
import Derived.WalkSpells
import Derived.Deep.Draws
import Derived.Below
import Derived.Test.YtkoihpfgleboiaaDoorShelf
import Derived.WalkLawsBesides
import Derived.Deep.LoopGhost
import Derived.Deep.CutBlock
import Derived.Deep.QuietTactic
import Derived.BigQuiet
import Derived.Lib.Hide
import Derived.Lib.ItoaNum
import Derived.Outline
import Derived.IntWalk
import Derived.Test.YtkoihpfgleboiaaDoorRows
import Derived.Shelf.Spec.BitsCarry
import Derived.Deep.RegionHeld3
import Derived.Laws.BytesString
import Derived.Laws.IdiomStrings
import Derived.Deep.Cut
import Derived.Deep.OwnRows
import Derived.BigRegion
namespace Go.Proofs.YtkoihpfgleboiaaDoor
open Go.RowKit
/-- An empty one, whatever its address. -/
theorem Digs.empty {w : World} {A : Option Addr} {c : Nat} (hc : c ≤ maxLen) : Digs w (.slice A 0 c) [] := ⟨A, c, rfl, Nat.zero_le _, hc, fun h => by simp at h⟩

end Go.Proofs.YtkoihpfgleboiaaDoor
namespace Go.Proofs.YtkoihpfgleboiaaDoor
open Go.RowKit
theorem add_step (p d0 d1 m s k0 : Int) (hs : s = d0 + d1 + m) : p + k0 * (s % 65536) + 65536 * k0 * (s / 65536) = p + k0 * m + k0 * d0 + k0 * d1 := by
  have e : s % 65536 + 65536 * (s / 65536) = d0 + d1 + m := by omega
  have e2 : k0 * (d0 + d1 + m) = k0 * (s % 65536) + k0 * (65536 * (s / 65536)) := by rw [← Int.mul_add, e]
  have e4 : k0 * (65536 * (s / 65536)) = 65536 * k0 * (s / 65536) := by rw [← Int.mul_assoc, Int.mul_comm k0 65536]
  simp only [Int.mul_add] at e2
  omega

set_option maxRecDepth 100000 in
set_option maxHeartbeats 1000000 in
theorem add_same (w : World) (bn : Bool) (A A' : Option Addr) (n n' c c' : Nat) (ds ds' : List Int) (z : Int) (h : Digs w (.slice A n c) ds) (h' : Digs w (.slice A' n' c') ds') (hr : InR ds) (hr' : InR ds')
    (hn : n ≤ 1000) (hn' : n' ≤ 1000) (hz : z = if bn then - (val ds + val ds') else val ds + val ds') :
    Calls Tryd.prog 6 #[.agg #[.bool bn, .slice A n c], .agg #[.bool bn, .slice A' n' c']] w fun e w' => ∃ u, e = .returned u ∧ NumIs w' u z ∧ Below w.heap.size w w' := by
  have HL := Lib.hid h.len.1
  have HL' := Lib.hid h'.len.1
  have H := Lib.hid h
  have H' := Lib.hid h'
  have HR := Lib.hid hr
  have HR' := Lib.hid hr'
  have HZ := Lib.hid hz
  clear h h' hr hr' hz
  obtain ⟨i0, hi, hz0, hz1, hz2⟩ := info_parts info_int
  go_enter Tryd.func6, Tryd.ntmps6
  go_wp2
  obtain ⟨W0, hW0⟩ : ∃ W0, W0 = (((w.alloc (.cells #[.bool bn, .slice A n c] 26)).alloc (.cells #[.bool bn, .slice A' n' c'] 26)).alloc (.cells #[.bool false, .slice none 0 0] 26)).alloc (.cells #[.bool bn, .slice none 0 0] 26) := ⟨_, rfl⟩
  have e1 : (w.alloc (.cells #[.bool bn, .slice A n c] 26)).heap.size = w.heap.size + 1 := by simp
  have e2 : ((w.alloc (.cells #[.bool bn, .slice A n c] 26)).alloc (.cells #[.bool bn, .slice A' n' c'] 26)).heap.size = w.heap.size + 1 + 1 := by simp
  have e3 : (((w.alloc (.cells #[.bool bn, .slice A n c] 26)).alloc (.cells #[.bool bn, .slice A' n' c'] 26)).alloc (.cells #[.bool false, .slice none 0 0] 26)).heap.size = w.heap.size + 1 + 1 + 1 := by simp
  have kA : Hid (W0.heap[w.heap.size]? = some (.cells #[.bool bn, .slice A n c] 26 (0, 0))) := by rw [hW0]; exact block_old (block_old (block_old (block_new _ _) _) _) _
  have kB : Hid (W0.heap[w.heap.size + 1]? = some (.cells #[.bool bn, .slice A' n' c'] 26 (0, 0))) := by rw [hW0, ← e1]; exact block_old (block_old (block_new _ _) _) _
  have kR : Hid (W0.heap[w.heap.size + 1 + 1]? = some (.cells #[.bool false, .slice none 0 0] 26 (0, 0))) := by rw [hW0, ← e2]; exact block_old (block_new _ _) _
  have kO : Hid (W0.heap[w.heap.size + 1 + 1 + 1]? = some (.cells #[.bool bn, .slice none 0 0] 26 (0, 0))) := by rw [hW0, ← e3]; exact block_new _ _
  have hb0 : Below w.heap.size w W0 := by rw [hW0]; exact ((((Below.refl _ _).alloc (Nat.le_refl _) _).alloc (by simp) _).alloc (by simp; omega) _).alloc (by simp; omega) _
  have hs0 : w.heap.size + 1 + 1 + 1 < W0.heap.size := by rw [hW0]; simp
  rw [← hW0]
  clear hW0 e1 e2 e3
  go_loopg [6, 7] (max n n') (fun g sm si wx => ∃ (k : Nat) (m : Int) (os : List Int) (Ao : Option Addr) (co : Nat), g = max n n' - k ∧ k ≤ max n n' ∧ sm = .int .i64 m ∧ 0 ≤ m ∧ m ≤ 1 ∧ si = .int .i64 (k : Int) ∧
      OutAt wx (w.heap.size + 1 + 1 + 1) bn os Ao co ∧ Below (w.heap.size + 1 + 1 + 1) W0 wx ∧ Hid (os.length = k ∧ InR os ∧ val os + bp k * m = val (ds.take k) + val (ds'.take k)))
  case atStart => exact ⟨0, 0, [], none, 0, rfl, Nat.zero_le _, rfl, by decide, by decide, rfl, ⟨kO.out, World.ownsRow_nil _ _ _ _⟩, Below.refl _ _, rfl, InR.nil, by simp [val, bp]⟩
  case round =>
    obtain ⟨k, m, os, Ao, co, rfl, hk, rfl, hm0, hm1, rfl, hout, hbel, hinv⟩ := hrel
    have hsz := hbel.size
    obtain ⟨c0, c1, f0, f1⟩ := blk2 hout.1
    have jA := Lib.hid ((hbel.block _ (by omega)).trans kA.out)
    have jB := Lib.hid ((hbel.block _ (by omega)).trans kB.out)
    have jR := Lib.hid ((hbel.block _ (by omega)).trans kR.out)
    obtain ⟨a0, a1, af0, af1⟩ := blk2 jA.out
    obtain ⟨b0, b1, bf0, bf1⟩ := blk2 jB.out
    have HO := Lib.hid hout
    have hol : os.length ≤ 1000 := by have := hinv.out.1; omega
    have hbw : Below w.heap.size w wr := hb0.trans (hbel.mono (by omega))
    have HdA := Lib.hid (H.out.below hbw (Nat.le_refl _))
    have HdB := Lib.hid (H'.out.below hbw (Nat.le_refl _))
    clear hout af0 af1 bf0 bf1 a0 b0
    by_cases hlt : k < n ∨ k < n'
    · obtain ⟨d, hd⟩ : ∃ d, d = ds.getD k 0 := ⟨_, rfl⟩
      obtain ⟨d', hd'⟩ : ∃ d, d = ds'.getD k 0 := ⟨_, rfl⟩
      have hdr := HR.out.getD k
      have hdr' := HR'.out.getD k
      rw [← hd] at hdr
      rw [← hd'] at hdr'
      obtain ⟨hd0, hd1⟩ := hdr
      obtain ⟨hd0', hd1'⟩ := hdr'
      have HD := Lib.hid hd
      have HD' := Lib.hid hd'
      clear hd hd'
      have hw1 : IntKind.i64.wrap (d + d') = d + d' := IntWalk.i64_in _ (by omega)
      have hw2 : IntKind.i64.wrap (d + d' + m) = d + d' + m := IntWalk.i64_in _ (by omega)
      rcases (by omega : k < n ∨ (¬ k < n ∧ k < n')) with hka | ⟨hka, hkb⟩
      all_goals
        go_wp2
        go_quiet ((go_at_call 14; first | with_reducible exact Calls.quiet_of_same (at_is (HdA.out.drewN _) _ HD) | with_reducible exact Calls.quiet_of_same (at_is (HdB.out.drewN _) _ HD')))
        obtain ⟨wq, hwq⟩ : ∃ wq, wq = wr.drewN nq := ⟨_, rfl⟩
        rw [← hwq]
        have hwq' : wq.heap.size = wr.heap.size := by rw [hwq]; rfl
        replace HO : Hid (OutAt wq (w.heap.size + 1 + 1 + 1) bn os Ao co) := by rw [hwq]; exact HO.out.drewN _
        replace hbel : Below (w.heap.size + 1 + 1 + 1) W0 wq := by rw [hwq]; exact below_drewN hbel _
        clear hwq c0 c1 f0 f1 a1 b1 jA jB jR hbw HdA HdB hw1 hw2
        have hsq : w.heap.size + 1 + 1 + 1 < wq.heap.size := by omega
        clear hwq' hsz
        obtain ⟨c0, c1, f0, f1⟩ := blk2 HO.out.1
        have HB := Lib.hid hbel
        clear hbel
        obtain ⟨s, hs⟩ : ∃ s, s = d + d' + m := ⟨_, rfl⟩
        rw [← hs]
        have hs0' : 0 ≤ s := by omega
        have hs1' : s ≤ 131071 := by omega
        have HS := Lib.hid hs
        clear hs
        go_wp2_with (at_builtin; refine wpList_append_own _ rfl (.tmp 47) (.tmp 50) 24 rfl (w.heap.size + 1 + 1 + 1 + 1) 3 i0 (.int .i64 0) 1 8 Tryd.underlying24 hi hz0 hz1 hz2 rfl (by decide) _ _ _ rfl (HO.out.2.alloc _) ⟨wq.heap.size, 0, none⟩ 1 1 [.int .i64 (s % 65536)] rfl rfl (cell_one_new _ _ _) (by intro u hu; simp at hu; subst hu; rfl) (by unfold maxLen; omega) (by omega) (by simp; omega) ?_; intro v' w1 hown' hgrow _; obtain ⟨hb1, A1, c1', rfl⟩ := HO.out.grown hgrow hown'; obtain ⟨cc0, cc1, ff0, ff1⟩ := blk2 hb1)
        have hbel2 : Below (w.heap.size + 1 + 1 + 1) W0 w1 := (HB.out.alloc (by omega) _).grown hgrow (by simp; omega) (fun b hb => by have := (HO.out.2.lt b hb).1; omega)
        have hnew := OutAt.stored hb1 hown'
        have hinv2 : (os ++ [s % 65536]).length = k + 1 ∧ InR (os ++ [s % 65536]) ∧ val (os ++ [s % 65536]) + bp (k + 1) * (s / 65536) = val (ds.take (k + 1)) + val (ds'.take (k + 1)) := by
          obtain ⟨h1, h2, h3⟩ := hinv.out
          refine ⟨by simp [h1], h2.snoc (by omega) (by omega), ?_⟩
          rw [val_snoc, h1, val_take_succ, val_take_succ ds', ← HD.out, ← HD'.out]
          have h4 := add_step (val os) d d' m s (bp k) HS.out
          simp only [bp] at h4 ⊢
          omega
        clear hgrow hown' cc0 cc1 ff0 ff1 c0 c1 f0 f1 hb1
        go_roundg (max n n' - (k + 1))
        case measure => omega
        case rel => exact ⟨k + 1, s / 65536, os ++ [s % 65536], A1, c1', rfl, by omega, rfl, by omega, by omega, by go_num, hnew, hbel2.setCell (p := ⟨w.heap.size + 1 + 1 + 1, 1, none⟩) (Nat.le_refl _) _, hinv2⟩
    · have hka : ¬ k < n := by omega
      have hkb : ¬ k < n' := by omega
      have hz3 : Hid (z = if bn = true then - val (os ++ [m]) else val (os ++ [m])) := by
        obtain ⟨h1, h2, h3⟩ := hinv.out
        have e1 := HL.out
        have e2 := HL'.out
        rw [val_take_all (by omega), val_take_all (by omega)] at h3
        have e3 : val (os ++ [m]) = val ds + val ds' := by rw [val_snoc, h1]; omega
        show z = _
        rw [e3]; exact HZ.out
      have hr1 : InR (os ++ [m]) := hinv.out.2.1.snoc (by omega) (by omega)
      go_wp2_with (first | (at_builtin; refine wpList_append_own _ rfl (.tmp 56) (.tmp 58) 24 rfl (w.heap.size + 1 + 1 + 1 + 1) 3 i0 (.int .i64 0) 1 8 Tryd.underlying24 hi hz0 hz1 hz2 rfl (by decide) _ _ _ rfl (HO.out.2.alloc _) ⟨wr.heap.size, 0, none⟩ 1 1 [.int .i64 m] rfl rfl (cell_one_new _ _ _) (by intro u hu; simp at hu; subst hu; rfl) (by unfold maxLen; omega) (by omega) (by simp; omega) ?_; intro v' w1 hown' hgrow _; obtain ⟨hb1, A1, c1', rfl⟩ := HO.out.grown hgrow hown'; obtain ⟨cc0, cc1, ff0, ff1⟩ := blk2 hb1; have hnew := Lib.hid (OutAt.stored hb1 hown'); have hnd := Lib.hid hnew.out.digs; have hres2 := Lib.hid (block_set (block_grown jR.out hgrow (fun e => by have := (HO.out.2.lt _ e.symm).1; omega)) (p := ⟨w.heap.size + 1 + 1 + 1, 1, none⟩) (by simp) (.slice A1 (os.length + 1) c1'))) | (go_at_call 15; refine (clean_num _ _ _ (os ++ [m]) _ (by have := hnd.out; rwa [List.length_append, List.length_singleton] at this) hr1 hz3.out).mono ?_; rintro e w' ⟨u, rfl, ⟨A2, n2, c2', rfl, hdig2⟩, hbel2⟩; have hres3 := block_kept hres2.out hbel2; obtain ⟨dd0, dd1, gg0, gg1⟩ := blk2 hres3))
      refine bodyPost_ret (v := .agg #[.bool (decide (z < 0)), .slice A2 n2 c2']) (by simp [results, Tryd.results6, go_sem, dd0, dd1]) rfl ⟨_, rfl, num_stored ⟨_, _, _, rfl, hdig2⟩ hres3 _ _, ?_⟩
      have hbel3 : Below (w.heap.size + 1 + 1 + 1) W0 w1 := (hbel.alloc (by omega) _).grown hgrow (by simp; omega) (fun b hb => by have := (HO.out.2.lt b hb).1; omega)
      have hbel4 := hbel3.setCell (p := ⟨w.heap.size + 1 + 1 + 1, 1, none⟩) (Nat.le_refl _) (.slice A1 (os.length + 1) c1')
      exact below_stored ((hb0.trans (hbel4.mono (by omega))).trans (hbel2.mono (by have := hbel4.size; omega))) (by omega) _ _
end Go.Proofs.YtkoihpfgleboiaaDoor
namespace Go.Proofs.YtkoihpfgleboiaaDoor
open Go.RowKit
theorem sub_step0 (p d0 d1 m s k0 a b : Int) (hs : s = d0 - d1 - m) (h : p - k0 * m = a - b) : p + k0 * s - 65536 * k0 * 0 = a + k0 * d0 - (b + k0 * d1) := by
  subst hs
  simp only [Int.mul_sub]
  omega
theorem sub_step1 (p d0 d1 m s k0 a b : Int) (hs : s = d0 - d1 - m) (h : p - k0 * m = a - b) : p + k0 * (s + 65536) - 65536 * k0 * 1 = a + k0 * d0 - (b + k0 * d1) := by
  subst hs
  simp only [Int.mul_sub, Int.mul_add]
  have : k0 * 65536 = 65536 * k0 := Int.mul_comm _ _
  omega
theorem digs_len_le {m n : Nat} (h : m ≤ n) : (digs m).length ≤ (digs n).length := by
  rcases Nat.lt_or_ge (digs n).length (digs m).length with h1 | h1
  · have := digs_lt_of_len h1; omega
  · exact h1

theorem size_setCell (w : World) (p : Addr) (u : Value) : (w.setCell p u).heap.size = w.heap.size := by simp [World.setCell]

set_option maxRecDepth 100000 in
set_option maxHeartbeats 2000000 in
theorem add_diff (w : World) (bn : Bool) (A A' : Option Addr) (n n' c c' : Nat) (x y : Nat) (z : Int) (h : Digs w (.slice A n c) (digs x)) (h' : Digs w (.slice A' n' c') (digs y))
    (hn : n ≤ 1000) (hn' : n' ≤ 1000) (hz : z = if bn then (y : Int) - x else (x : Int) - y) :
    Calls Tryd.prog 6 #[.agg #[.bool bn, .slice A n c], .agg #[.bool (!bn), .slice A' n' c']] w fun e w' => ∃ u, e = .returned u ∧ NumIs w' u z ∧ Below w.heap.size w w' := by
  have HL := Lib.hid h.len.1
  have HL' := Lib.hid h'.len.1
  have H := Lib.hid h
  have H' := Lib.hid h'
  obtain ⟨i0, hi, hz0, hz1, hz2⟩ := info_parts info_int
  cases bn
  · by_cases hxy : x < y
    · have hcm : cmpN x y = -1 := cmpN_lt hxy
      have HLE : Hid ((digs x).length ≤ (digs y).length) := digs_len_le (by omega)
      have HZ : Hid (z = if true = true then - ((y : Int) - x) else (y : Int) - x) := by
        show z = _
        rw [hz]; simp <;> omega
      have HXY : Hid (x ≤ y) := (by omega : x ≤ y)
      obtain ⟨cm, hcm1⟩ : ∃ cm, cm = cmpN x y := ⟨_, rfl⟩
      have hcm2 : cm < 0 := by rw [hcm1, hcm]; decide
      have HCM := Lib.hid hcm1
      clear h h' hz hcm1 hxy hcm
      go_enter Tryd.func6, Tryd.ntmps6
      go_wp2_with fail
      with_reducible refine (size_any _ _ _ x y (((H.out.alloc _).alloc _).alloc _) (((H'.out.alloc _).alloc _).alloc _)).mono ?_
      rw [← HCM.out]
      rintro e w' ⟨rfl, nd, rfl⟩
      obtain ⟨k0, k1, k2, k3, k4, k5⟩ := three_new w (.cells #[.bool false, .slice A n c] 26) (.cells #[.bool true, .slice A' n' c'] 26) (.cells #[.bool false, .slice none 0 0] 26) nd
      obtain ⟨W1, hW1⟩ : ∃ W1, W1 = (((w.alloc (.cells #[.bool false, .slice A n c] 26)).alloc (.cells #[.bool true, .slice A' n' c'] 26)).alloc (.cells #[.bool false, .slice none 0 0] 26)).drewN nd := ⟨_, rfl⟩
      rw [← hW1] at k0 k1 k2 k3 k4 ⊢
      clear hW1
      obtain ⟨a0, a1, af0, af1⟩ := blk2 k0
      obtain ⟨b0, b1, bf0, bf1⟩ := blk2 k1
      have K0 := Lib.hid k0
      have K1 := Lib.hid k1
      have K2 := Lib.hid k2
      have K4 := Lib.hid k4
      clear k0 k1 k2 k4 k5
      go_wp2_with fail
      clear a0 a1 af0 af1 b0 b1 bf0 bf1 hcm2 HCM
      obtain ⟨W0, hW0⟩ : ∃ W0, W0 = ((((W1.setCell ⟨w.heap.size, 0, none⟩ (.bool true)).setCell ⟨w.heap.size, 1, none⟩ (.slice A' n' c')).setCell ⟨w.heap.size + 1, 0, none⟩ (.bool false)).setCell ⟨w.heap.size + 1, 1, none⟩ (.slice A n c)).alloc (.cells #[.bool true, .slice none 0 0] 26) := ⟨_, rfl⟩
      have es : ((((W1.setCell ⟨w.heap.size, 0, none⟩ (.bool true)).setCell ⟨w.heap.size, 1, none⟩ (.slice A' n' c')).setCell ⟨w.heap.size + 1, 0, none⟩ (.bool false)).setCell ⟨w.heap.size + 1, 1, none⟩ (.slice A n c)).heap.size = w.heap.size + 1 + 1 + 1 := by simp only [size_setCell]; exact k3
      have kA : Hid (W0.heap[w.heap.size]? = some (.cells #[.bool true, .slice A' n' c'] 26 (0, 0))) := by rw [hW0]; exact block_old (block_set (block_set (blk_store2 K0.out _ _) (by simp) _) (by simp) _) _
      have kB : Hid (W0.heap[w.heap.size + 1]? = some (.cells #[.bool false, .slice A n c] 26 (0, 0))) := by rw [hW0]; exact block_old (blk_store2 (block_set (block_set K1.out (by simp) _) (by simp) _) _ _) _
      have kR : Hid (W0.heap[w.heap.size + 1 + 1]? = some (.cells #[.bool false, .slice none 0 0] 26 (0, 0))) := by rw [hW0]; exact block_old (block_set (block_set (block_set (block_set K2.out (by simp; omega) _) (by simp; omega) _) (by simp) _) (by simp) _) _
      have kO : Hid (W0.heap[w.heap.size + 1 + 1 + 1]? = some (.cells #[.bool true, .slice none 0 0] 26 (0, 0))) := by rw [hW0, ← es]; exact block_new _ _
      have hb0 : Below w.heap.size w W0 := by rw [hW0]; exact Below.alloc ((((K4.out.setCell (p := ⟨w.heap.size, 0, none⟩) (Nat.le_refl _) _).setCell (p := ⟨w.heap.size, 1, none⟩) (Nat.le_refl _) _).setCell (p := ⟨w.heap.size + 1, 0, none⟩) (Nat.le_succ _) _).setCell (p := ⟨w.heap.size + 1, 1, none⟩) (Nat.le_succ _) _) (by rw [es]; omega) _
      have hs0 : w.heap.size + 1 + 1 + 1 < W0.heap.size := by rw [hW0]; simp only [World.size_alloc]; rw [es]; omega
      rw [← hW0]
      clear hW0 es k3 K0 K1 K2 K4
      go_loopg [10, 11] n' (fun g sm si wx => ∃ (k : Nat) (m : Int) (os : List Int) (Ao : Option Addr) (co : Nat), g = n' - k ∧ k ≤ n' ∧ sm = .int .i64 m ∧ 0 ≤ m ∧ m ≤ 1 ∧ si = .int .i64 (k : Int) ∧
          OutAt wx (w.heap.size + 1 + 1 + 1) true os Ao co ∧ Below (w.heap.size + 1 + 1 + 1) W0 wx ∧ Hid (os.length = k ∧ InR os ∧ val os - bp k * m = val ((digs y).take k) - val ((digs x).take k)))
      case atStart => exact ⟨0, 0, [], none, 0, rfl, Nat.zero_le _, rfl, by decide, by decide, rfl, ⟨kO.out, World.ownsRow_nil _ _ _ _⟩, Below.refl _ _, rfl, InR.nil, by simp [val, bp]⟩
      case round =>
        obtain ⟨k, m, os, Ao, co, rfl, hk, rfl, hm0, hm1, rfl, hout, hbel, hinv⟩ := hrel
        have hsz := hbel.size
        obtain ⟨c0, c1, f0, f1⟩ := blk2 hout.1
        have jA := Lib.hid ((hbel.block _ (by omega)).trans kA.out)
        have jB := Lib.hid ((hbel.block _ (by omega)).trans kB.out)
        have jR := Lib.hid ((hbel.block _ (by omega)).trans kR.out)
        obtain ⟨a0, a1, af0, af1⟩ := blk2 jA.out
        obtain ⟨b0, b1, bf0, bf1⟩ := blk2 jB.out
        have HO := Lib.hid hout
        have hol : os.length ≤ 1000 := by have := hinv.out.1; omega
        have hbw : Below w.heap.size w wr := hb0.trans (hbel.mono (by omega))
        have HdA := Lib.hid (H'.out.below hbw (Nat.le_refl _))
        have HdB := Lib.hid (H.out.below hbw (Nat.le_refl _))
        clear hout af0 af1 bf0 bf1 a0 b0
        by_cases hlt : k < n'
        · obtain ⟨d, hd⟩ : ∃ d, d = (digs y).getD k 0 := ⟨_, rfl⟩
          obtain ⟨d', hd'⟩ : ∃ d, d = (digs x).getD k 0 := ⟨_, rfl⟩
          have hdr := (digs_inR y).getD k
          have hdr' := (digs_inR x).getD k
          rw [← hd] at hdr
          rw [← hd'] at hdr'
          obtain ⟨hd0, hd1⟩ := hdr
          obtain ⟨hd0', hd1'⟩ := hdr'
          have HD := Lib.hid hd
          have HD' := Lib.hid hd'
          clear hd hd'
          have hw1 : IntKind.i64.wrap (d - d') = d - d' := IntWalk.i64_in _ (by omega)
          have hw2 : IntKind.i64.wrap (d - d' - m) = d - d' - m := IntWalk.i64_in _ (by omega)
          go_wp2
          go_quiet ((go_at_call 14; first | with_reducible exact Calls.quiet_of_same (at_is (HdA.out.drewN _) _ HD) | with_reducible exact Calls.quiet_of_same (at_is (HdB.out.drewN _) _ HD')))
          obtain ⟨wq, hwq⟩ : ∃ wq, wq = wr.drewN nq := ⟨_, rfl⟩
          rw [← hwq]
          have hwq' : wq.heap.size = wr.heap.size := by rw [hwq]; rfl
          replace HO : Hid (OutAt wq (w.heap.size + 1 + 1 + 1) true os Ao co) := by rw [hwq]; exact HO.out.drewN _
          replace hbel : Below (w.heap.size + 1 + 1 + 1) W0 wq := by rw [hwq]; exact below_drewN hbel _
          clear hwq c0 c1 f0 f1 a1 b1 jA jB jR hbw HdA HdB hw1 hw2
          have hsq : w.heap.size + 1 + 1 + 1 < wq.heap.size := by omega
          clear hwq' hsz
          obtain ⟨c0, c1, f0, f1⟩ := blk2 HO.out.1
          have HB := Lib.hid hbel
          clear hbel
          obtain ⟨s, hs⟩ : ∃ s, s = d - d' - m := ⟨_, rfl⟩
          rw [← hs]
          have hs0' : -65536 ≤ s := by omega
          have hs1' : s ≤ 65535 := by omega
          have HS := Lib.hid hs
          clear hs
          by_cases hneg : s < 0
          · go_wp2_with (at_builtin; refine wpList_append_own _ rfl (.tmp 97) (.tmp 99) 24 rfl (w.heap.size + 1 + 1 + 1 + 1) 3 i0 (.int .i64 0) 1 8 Tryd.underlying24 hi hz0 hz1 hz2 rfl (by decide) _ _ _ rfl (HO.out.2.alloc _) ⟨wq.heap.size, 0, none⟩ 1 1 [.int .i64 (s + 65536)] rfl rfl (cell_one_new _ _ _) (by intro u hu; simp at hu; subst hu; rfl) (by unfold maxLen; omega) (by omega) (by simp; omega) ?_; intro v' w1 hown' hgrow _; obtain ⟨hb1, A1, c1', rfl⟩ := HO.out.grown hgrow hown'; obtain ⟨cc0, cc1, ff0, ff1⟩ := blk2 hb1)
            have hbel2 : Below (w.heap.size + 1 + 1 + 1) W0 w1 := (HB.out.alloc (by omega) _).grown hgrow (by simp; omega) (fun b hb => by have := (HO.out.2.lt b hb).1; omega)
            have hnew := OutAt.stored hb1 hown'
            have hinv2 : (os ++ [s + 65536]).length = k + 1 ∧ InR (os ++ [s + 65536]) ∧ val (os ++ [s + 65536]) - bp (k + 1) * 1 = val ((digs y).take (k + 1)) - val ((digs x).take (k + 1)) := by
              obtain ⟨h1, h2, h3⟩ := hinv.out
              refine ⟨by simp [h1], h2.snoc (by omega) (by omega), ?_⟩
              rw [val_snoc, h1, val_take_succ, val_take_succ (digs x), ← HD.out, ← HD'.out]
              exact sub_step1 _ _ _ _ _ _ _ _ HS.out h3
            clear hgrow hown' cc0 cc1 ff0 ff1 c0 c1 f0 f1 hb1
            go_roundg (n' - (k + 1))
            case measure => omega
            case rel => exact ⟨k + 1, 1, os ++ [s + 65536], A1, c1', rfl, by omega, rfl, by omega, by omega, by go_num, hnew, hbel2.setCell (p := ⟨w.heap.size + 1 + 1 + 1, 1, none⟩) (Nat.le_refl _) _, hinv2⟩
          · go_wp2_with (at_builtin; refine wpList_append_own _ rfl (.tmp 97) (.tmp 99) 24 rfl (w.heap.size + 1 + 1 + 1 + 1) 3 i0 (.int .i64 0) 1 8 Tryd.underlying24 hi hz0 hz1 hz2 rfl (by decide) _ _ _ rfl (HO.out.2.alloc _) ⟨wq.heap.size, 0, none⟩ 1 1 [.int .i64 (s)] rfl rfl (cell_one_new _ _ _) (by intro u hu; simp at hu; subst hu; rfl) (by unfold maxLen; omega) (by omega) (by simp; omega) ?_; intro v' w1 hown' hgrow _; obtain ⟨hb1, A1, c1', rfl⟩ := HO.out.grown hgrow hown'; obtain ⟨cc0, cc1, ff0, ff1⟩ := blk2 hb1)
            have hbel2 : Below (w.heap.size + 1 + 1 + 1) W0 w1 := (HB.out.alloc (by omega) _).grown hgrow (by simp; omega) (fun b hb => by have := (HO.out.2.lt b hb).1; omega)
            have hnew := OutAt.stored hb1 hown'
            have hinv2 : (os ++ [s]).length = k + 1 ∧ InR (os ++ [s]) ∧ val (os ++ [s]) - bp (k + 1) * 0 = val ((digs y).take (k + 1)) - val ((digs x).take (k + 1)) := by
              obtain ⟨h1, h2, h3⟩ := hinv.out
              refine ⟨by simp [h1], h2.snoc (by omega) (by omega), ?_⟩
              rw [val_snoc, h1, val_take_succ, val_take_succ (digs x), ← HD.out, ← HD'.out]
              exact sub_step0 _ _ _ _ _ _ _ _ HS.out h3
            clear hgrow hown' cc0 cc1 ff0 ff1 c0 c1 f0 f1 hb1
            go_roundg (n' - (k + 1))
            case measure => omega
            case rel => exact ⟨k + 1, 0, os ++ [s], A1, c1', rfl, by omega, rfl, by omega, by omega, by go_num, hnew, hbel2.setCell (p := ⟨w.heap.size + 1 + 1 + 1, 1, none⟩) (Nat.le_refl _) _, hinv2⟩
        · have hz3 : Hid (z = if true = true then - val os else val os) := by
            obtain ⟨h1, h2, h3⟩ := hinv.out
            have e1 := HL'.out
            have e2 := HL.out
            have e3 := HLE.out
            have e4 := HXY.out
            have e5 := val_lt h2
            rw [val_take_all (by omega), val_take_all (by omega), val_digs, val_digs] at h3
            rw [h1] at e5
            have e6 : m = 0 := by
              rcases (by omega : m = 0 ∨ m = 1) with h | h
              · exact h
              · subst h; omega
            subst e6
            have e7 : val os = (y : Int) - x := by omega
            show z = _
            rw [e7]; exact HZ.out
          have hkn : k = n' := by omega
          have hdig := HO.out.digs
          go_wp2_with (go_at_call 15; refine (clean_num _ _ _ os _ hdig hinv.out.2.1 hz3.out).mono ?_; rintro e w' ⟨u, rfl, ⟨A2, n2, c2', rfl, hdig2⟩, hbel2⟩; have hres3 := block_kept jR.out hbel2; obtain ⟨dd0, dd1, gg0, gg1⟩ := blk2 hres3)
          refine bodyPost_ret (v := .agg #[.bool (decide (z < 0)), .slice A2 n2 c2']) (by simp [results, Tryd.results6, go_sem, dd0, dd1]) rfl ⟨_, rfl, num_stored ⟨_, _, _, rfl, hdig2⟩ hres3 _ _, ?_⟩
          exact below_stored ((hb0.trans (hbel.mono (by omega))).trans (hbel2.mono (by omega))) (by omega) _ _
    · have HLE : Hid ((digs y).length ≤ (digs x).length) := digs_len_le (by omega)
      have HZ : Hid (z = if false = true then - ((x : Int) - y) else (x : Int) - y) := by
        show z = _
        rw [hz]; simp
      have HXY : Hid (y ≤ x) := (by omega : y ≤ x)
      obtain ⟨cm, hcm1⟩ : ∃ cm, cm = cmpN x y := ⟨_, rfl⟩
      have hcm2 : ¬ cm < 0 := by rw [hcm1]; unfold cmpN; rw [if_neg hxy]; split <;> decide
      have HCM := Lib.hid hcm1
      clear h h' hz hcm1 hxy
      go_enter Tryd.func6, Tryd.ntmps6
      go_wp2_with fail
      with_reducible refine (size_any _ _ _ x y (((H.out.alloc _).alloc _).alloc _) (((H'.out.alloc _).alloc _).alloc _)).mono ?_
      rw [← HCM.out]
      rintro e w' ⟨rfl, nd, rfl⟩
      obtain ⟨k0, k1, k2, k3, k4, k5⟩ := three_new w (.cells #[.bool false, .slice A n c] 26) (.cells #[.bool true, .slice A' n' c'] 26) (.cells #[.bool false, .slice none 0 0] 26) nd
      obtain ⟨W1, hW1⟩ : ∃ W1, W1 = (((w.alloc (.cells #[.bool false, .slice A n c] 26)).alloc (.cells #[.bool true, .slice A' n' c'] 26)).alloc (.cells #[.bool false, .slice none 0 0] 26)).drewN nd := ⟨_, rfl⟩
      rw [← hW1] at k0 k1 k2 k3 k4 ⊢
      clear hW1
      obtain ⟨a0, a1, af0, af1⟩ := blk2 k0
      obtain ⟨b0, b1, bf0, bf1⟩ := blk2 k1
      have K0 := Lib.hid k0
      have K1 := Lib.hid k1
      have K2 := Lib.hid k2
      have K4 := Lib.hid k4
      clear k0 k1 k2 k4 k5
      go_wp2_with fail
      clear a0 a1 af0 af1 b0 b1 bf0 bf1 hcm2 HCM
      obtain ⟨W0, hW0⟩ : ∃ W0, W0 = W1.alloc (.cells #[.bool false, .slice none 0 0] 26) := ⟨_, rfl⟩
      have es : W1.heap.size = w.heap.size + 1 + 1 + 1 := by exact k3
      have kA : Hid (W0.heap[w.heap.size]? = some (.cells #[.bool false, .slice A n c] 26 (0, 0))) := by rw [hW0]; exact block_old (K0.out) _
      have kB : Hid (W0.heap[w.heap.size + 1]? = some (.cells #[.bool true, .slice A' n' c'] 26 (0, 0))) := by rw [hW0]; exact block_old (K1.out) _
      have kR : Hid (W0.heap[w.heap.size + 1 + 1]? = some (.cells #[.bool false, .slice none 0 0] 26 (0, 0))) := by rw [hW0]; exact block_old (K2.out) _
      have kO : Hid (W0.heap[w.heap.size + 1 + 1 + 1]? = some (.cells #[.bool false, .slice none 0 0] 26 (0, 0))) := by rw [hW0, ← es]; exact block_new _ _
      have hb0 : Below w.heap.size w W0 := by rw [hW0]; exact Below.alloc (K4.out) (by rw [es]; omega) _
      have hs0 : w.heap.size + 1 + 1 + 1 < W0.heap.size := by rw [hW0]; simp only [World.size_alloc]; rw [es]; omega
      rw [← hW0]
      clear hW0 es k3 K0 K1 K2 K4
      go_loopg [10, 11] n (fun g sm si wx => ∃ (k : Nat) (m : Int) (os : List Int) (Ao : Option Addr) (co : Nat), g = n - k ∧ k ≤ n ∧ sm = .int .i64 m ∧ 0 ≤ m ∧ m ≤ 1 ∧ si = .int .i64 (k : Int) ∧
          OutAt wx (w.heap.size + 1 + 1 + 1) false os Ao co ∧ Below (w.heap.size + 1 + 1 + 1) W0 wx ∧ Hid (os.length = k ∧ InR os ∧ val os - bp k * m = val ((digs x).take k) - val ((digs y).take k)))
      case atStart => exact ⟨0, 0, [], none, 0, rfl, Nat.zero_le _, rfl, by decide, by decide, rfl, ⟨kO.out, World.ownsRow_nil _ _ _ _⟩, Below.refl _ _, rfl, InR.nil, by simp [val, bp]⟩
      case round =>
        obtain ⟨k, m, os, Ao, co, rfl, hk, rfl, hm0, hm1, rfl, hout, hbel, hinv⟩ := hrel
        have hsz := hbel.size
        obtain ⟨c0, c1, f0, f1⟩ := blk2 hout.1
        have jA := Lib.hid ((hbel.block _ (by omega)).trans kA.out)
        have jB := Lib.hid ((hbel.block _ (by omega)).trans kB.out)
        have jR := Lib.hid ((hbel.block _ (by omega)).trans kR.out)
        obtain ⟨a0, a1, af0, af1⟩ := blk2 jA.out
        obtain ⟨b0, b1, bf0, bf1⟩ := blk2 jB.out
        have HO := Lib.hid hout
        have hol : os.length ≤ 1000 := by have := hinv.out.1; omega
        have hbw : Below w.heap.size w wr := hb0.trans (hbel.mono (by omega))
        have HdA := Lib.hid (H.out.below hbw (Nat.le_refl _))
        have HdB := Lib.hid (H'.out.below hbw (Nat.le_refl _))
        clear hout af0 af1 bf0 bf1 a0 b0
        by_cases hlt : k < n
        · obtain ⟨d, hd⟩ : ∃ d, d = (digs x).getD k 0 := ⟨_, rfl⟩
          obtain ⟨d', hd'⟩ : ∃ d, d = (digs y).getD k 0 := ⟨_, rfl⟩
          have hdr := (digs_inR x).getD k
          have hdr' := (digs_inR y).getD k
          rw [← hd] at hdr
          rw [← hd'] at hdr'
          obtain ⟨hd0, hd1⟩ := hdr
          obtain ⟨hd0', hd1'⟩ := hdr'
          have HD := Lib.hid hd
          have HD' := Lib.hid hd'
          clear hd hd'
          have hw1 : IntKind.i64.wrap (d - d') = d - d' := IntWalk.i64_in _ (by omega)
          have hw2 : IntKind.i64.wrap (d - d' - m) = d - d' - m := IntWalk.i64_in _ (by omega)
          go_wp2
          go_quiet ((go_at_call 14; first | with_reducible exact Calls.quiet_of_same (at_is (HdA.out.drewN _) _ HD) | with_reducible exact Calls.quiet_of_same (at_is (HdB.out.drewN _) _ HD')))
          obtain ⟨wq, hwq⟩ : ∃ wq, wq = wr.drewN nq := ⟨_, rfl⟩
          rw [← hwq]
          have hwq' : wq.heap.size = wr.heap.size := by rw [hwq]; rfl
          replace HO : Hid (OutAt wq (w.heap.size + 1 + 1 + 1) false os Ao co) := by rw [hwq]; exact HO.out.drewN _
          replace hbel : Below (w.heap.size + 1 + 1 + 1) W0 wq := by rw [hwq]; exact below_drewN hbel _
          clear hwq c0 c1 f0 f1 a1 b1 jA jB jR hbw HdA HdB hw1 hw2
          have hsq : w.heap.size + 1 + 1 + 1 < wq.heap.size := by omega
          clear hwq' hsz
          obtain ⟨c0, c1, f0, f1⟩ := blk2 HO.out.1
          have HB := Lib.hid hbel
          clear hbel
          obtain ⟨s, hs⟩ : ∃ s, s = d - d' - m := ⟨_, rfl⟩
          rw [← hs]
          have hs0' : -65536 ≤ s := by omega
          have hs1' : s ≤ 65535 := by omega
          have HS := Lib.hid hs
          clear hs
          by_cases hneg : s < 0
          · go_wp2_with (at_builtin; refine wpList_append_own _ rfl (.tmp 97) (.tmp 99) 24 rfl (w.heap.size + 1 + 1 + 1 + 1) 3 i0 (.int .i64 0) 1 8 Tryd.underlying24 hi hz0 hz1 hz2 rfl (by decide) _ _ _ rfl (HO.out.2.alloc _) ⟨wq.heap.size, 0, none⟩ 1 1 [.int .i64 (s + 65536)] rfl rfl (cell_one_new _ _ _) (by intro u hu; simp at hu; subst hu; rfl) (by unfold maxLen; omega) (by omega) (by simp; omega) ?_; intro v' w1 hown' hgrow _; obtain ⟨hb1, A1, c1', rfl⟩ := HO.out.grown hgrow hown'; obtain ⟨cc0, cc1, ff0, ff1⟩ := blk2 hb1)
            have hbel2 : Below (w.heap.size + 1 + 1 + 1) W0 w1 := (HB.out.alloc (by omega) _).grown hgrow (by simp; omega) (fun b hb => by have := (HO.out.2.lt b hb).1; omega)
            have hnew := OutAt.stored hb1 hown'
            have hinv2 : (os ++ [s + 65536]).length = k + 1 ∧ InR (os ++ [s + 65536]) ∧ val (os ++ [s + 65536]) - bp (k + 1) * 1 = val ((digs x).take (k + 1)) - val ((digs y).take (k + 1)) := by
              obtain ⟨h1, h2, h3⟩ := hinv.out
              refine ⟨by simp [h1], h2.snoc (by omega) (by omega), ?_⟩
              rw [val_snoc, h1, val_take_succ, val_take_succ (digs y), ← HD.out, ← HD'.out]
              exact sub_step1 _ _ _ _ _ _ _ _ HS.out h3
            clear hgrow hown' cc0 cc1 ff0 ff1 c0 c1 f0 f1 hb1
            go_roundg (n - (k + 1))
            case measure => omega
            case rel => exact ⟨k + 1, 1, os ++ [s + 65536], A1, c1', rfl, by omega, rfl, by omega, by omega, by go_num, hnew, hbel2.setCell (p := ⟨w.heap.size + 1 + 1 + 1, 1, none⟩) (Nat.le_refl _) _, hinv2⟩
          · go_wp2_with (at_builtin; refine wpList_append_own _ rfl (.tmp 97) (.tmp 99) 24 rfl (w.heap.size + 1 + 1 + 1 + 1) 3 i0 (.int .i64 0) 1 8 Tryd.underlying24 hi hz0 hz1 hz2 rfl (by decide) _ _ _ rfl (HO.out.2.alloc _) ⟨wq.heap.size, 0, none⟩ 1 1 [.int .i64 (s)] rfl rfl (cell_one_new _ _ _) (by intro u hu; simp at hu; subst hu; rfl) (by unfold maxLen; omega) (by omega) (by simp; omega) ?_; intro v' w1 hown' hgrow _; obtain ⟨hb1, A1, c1', rfl⟩ := HO.out.grown hgrow hown'; obtain ⟨cc0, cc1, ff0, ff1⟩ := blk2 hb1)
            have hbel2 : Below (w.heap.size + 1 + 1 + 1) W0 w1 := (HB.out.alloc (by omega) _).grown hgrow (by simp; omega) (fun b hb => by have := (HO.out.2.lt b hb).1; omega)
            have hnew := OutAt.stored hb1 hown'
            have hinv2 : (os ++ [s]).length = k + 1 ∧ InR (os ++ [s]) ∧ val (os ++ [s]) - bp (k + 1) * 0 = val ((digs x).take (k + 1)) - val ((digs y).take (k + 1)) := by
              obtain ⟨h1, h2, h3⟩ := hinv.out
              refine ⟨by simp [h1], h2.snoc (by omega) (by omega), ?_⟩
              rw [val_snoc, h1, val_take_succ, val_take_succ (digs y), ← HD.out, ← HD'.out]
              exact sub_step0 _ _ _ _ _ _ _ _ HS.out h3
            clear hgrow hown' cc0 cc1 ff0 ff1 c0 c1 f0 f1 hb1
            go_roundg (n - (k + 1))
            case measure => omega
            case rel => exact ⟨k + 1, 0, os ++ [s], A1, c1', rfl, by omega, rfl, by omega, by omega, by go_num, hnew, hbel2.setCell (p := ⟨w.heap.size + 1 + 1 + 1, 1, none⟩) (Nat.le_refl _) _, hinv2⟩
        · have hz3 : Hid (z = if false = true then - val os else val os) := by
            obtain ⟨h1, h2, h3⟩ := hinv.out
            have e1 := HL.out
            have e2 := HL'.out
            have e3 := HLE.out
            have e4 := HXY.out
            have e5 := val_lt h2
            rw [val_take_all (by omega), val_take_all (by omega), val_digs, val_digs] at h3
            rw [h1] at e5
            have e6 : m = 0 := by
              rcases (by omega : m = 0 ∨ m = 1) with h | h
              · exact h
              · subst h; omega
            subst e6
            have e7 : val os = (x : Int) - y := by omega
            show z = _
            rw [e7]; exact HZ.out
          have hkn : k = n := by omega
          have hdig := HO.out.digs
          go_wp2_with (go_at_call 15; refine (clean_num _ _ _ os _ hdig hinv.out.2.1 hz3.out).mono ?_; rintro e w' ⟨u, rfl, ⟨A2, n2, c2', rfl, hdig2⟩, hbel2⟩; have hres3 := block_kept jR.out hbel2; obtain ⟨dd0, dd1, gg0, gg1⟩ := blk2 hres3)
          refine bodyPost_ret (v := .agg #[.bool (decide (z < 0)), .slice A2 n2 c2']) (by simp [results, Tryd.results6, go_sem, dd0, dd1]) rfl ⟨_, rfl, num_stored ⟨_, _, _, rfl, hdig2⟩ hres3 _ _, ?_⟩
          exact below_stored ((hb0.trans (hbel.mono (by omega))).trans (hbel2.mono (by omega))) (by omega) _ _
  · by_cases hxy : x < y
    · have hcm : cmpN x y = -1 := cmpN_lt hxy
      have HLE : Hid ((digs x).length ≤ (digs y).length) := digs_len_le (by omega)
      have HZ : Hid (z = if false = true then - ((y : Int) - x) else (y : Int) - x) := by
        show z = _
        rw [hz]; simp
      have HXY : Hid (x ≤ y) := (by omega : x ≤ y)
      obtain ⟨cm, hcm1⟩ : ∃ cm, cm = cmpN x y := ⟨_, rfl⟩
      have hcm2 : cm < 0 := by rw [hcm1, hcm]; decide
      have HCM := Lib.hid hcm1
      clear h h' hz hcm1 hxy hcm
      go_enter Tryd.func6, Tryd.ntmps6
      go_wp2_with fail
      with_reducible refine (size_any _ _ _ x y (((H.out.alloc _).alloc _).alloc _) (((H'.out.alloc _).alloc _).alloc _)).mono ?_
      rw [← HCM.out]
      rintro e w' ⟨rfl, nd, rfl⟩
      obtain ⟨k0, k1, k2, k3, k4, k5⟩ := three_new w (.cells #[.bool true, .slice A n c] 26) (.cells #[.bool false, .slice A' n' c'] 26) (.cells #[.bool false, .slice none 0 0] 26) nd
      obtain ⟨W1, hW1⟩ : ∃ W1, W1 = (((w.alloc (.cells #[.bool true, .slice A n c] 26)).alloc (.cells #[.bool false, .slice A' n' c'] 26)).alloc (.cells #[.bool false, .slice none 0 0] 26)).drewN nd := ⟨_, rfl⟩
      rw [← hW1] at k0 k1 k2 k3 k4 ⊢
      clear hW1
      obtain ⟨a0, a1, af0, af1⟩ := blk2 k0
      obtain ⟨b0, b1, bf0, bf1⟩ := blk2 k1
      have K0 := Lib.hid k0
      have K1 := Lib.hid k1
      have K2 := Lib.hid k2
      have K4 := Lib.hid k4
      clear k0 k1 k2 k4 k5
      go_wp2_with fail
      clear a0 a1 af0 af1 b0 b1 bf0 bf1 hcm2 HCM
      obtain ⟨W0, hW0⟩ : ∃ W0, W0 = ((((W1.setCell ⟨w.heap.size, 0, none⟩ (.bool false)).setCell ⟨w.heap.size, 1, none⟩ (.slice A' n' c')).setCell ⟨w.heap.size + 1, 0, none⟩ (.bool true)).setCell ⟨w.heap.size + 1, 1, none⟩ (.slice A n c)).alloc (.cells #[.bool false, .slice none 0 0] 26) := ⟨_, rfl⟩
      have es : ((((W1.setCell ⟨w.heap.size, 0, none⟩ (.bool false)).setCell ⟨w.heap.size, 1, none⟩ (.slice A' n' c')).setCell ⟨w.heap.size + 1, 0, none⟩ (.bool true)).setCell ⟨w.heap.size + 1, 1, none⟩ (.slice A n c)).heap.size = w.heap.size + 1 + 1 + 1 := by simp only [size_setCell]; exact k3
      have kA : Hid (W0.heap[w.heap.size]? = some (.cells #[.bool false, .slice A' n' c'] 26 (0, 0))) := by rw [hW0]; exact block_old (block_set (block_set (blk_store2 K0.out _ _) (by simp) _) (by simp) _) _
      have kB : Hid (W0.heap[w.heap.size + 1]? = some (.cells #[.bool true, .slice A n c] 26 (0, 0))) := by rw [hW0]; exact block_old (blk_store2 (block_set (block_set K1.out (by simp) _) (by simp) _) _ _) _
      have kR : Hid (W0.heap[w.heap.size + 1 + 1]? = some (.cells #[.bool false, .slice none 0 0] 26 (0, 0))) := by rw [hW0]; exact block_old (block_set (block_set (block_set (block_set K2.out (by simp; omega) _) (by simp; omega) _) (by simp) _) (by simp) _) _
      have kO : Hid (W0.heap[w.heap.size + 1 + 1 + 1]? = some (.cells #[.bool false, .slice none 0 0] 26 (0, 0))) := by rw [hW0, ← es]; exact block_new _ _
      have hb0 : Below w.heap.size w W0 := by rw [hW0]; exact Below.alloc ((((K4.out.setCell (p := ⟨w.heap.size, 0, none⟩) (Nat.le_refl _) _).setCell (p := ⟨w.heap.size, 1, none⟩) (Nat.le_refl _) _).setCell (p := ⟨w.heap.size + 1, 0, none⟩) (Nat.le_succ _) _).setCell (p := ⟨w.heap.size + 1, 1, none⟩) (Nat.le_succ _) _) (by rw [es]; omega) _
      have hs0 : w.heap.size + 1 + 1 + 1 < W0.heap.size := by rw [hW0]; simp only [World.size_alloc]; rw [es]; omega
      rw [← hW0]
      clear hW0 es k3 K0 K1 K2 K4
      go_loopg [10, 11] n' (fun g sm si wx => ∃ (k : Nat) (m : Int) (os : List Int) (Ao : Option Addr) (co : Nat), g = n' - k ∧ k ≤ n' ∧ sm = .int .i64 m ∧ 0 ≤ m ∧ m ≤ 1 ∧ si = .int .i64 (k : Int) ∧
          OutAt wx (w.heap.size + 1 + 1 + 1) false os Ao co ∧ Below (w.heap.size + 1 + 1 + 1) W0 wx ∧ Hid (os.length = k ∧ InR os ∧ val os - bp k * m = val ((digs y).take k) - val ((digs x).take k)))
      case atStart => exact ⟨0, 0, [], none, 0, rfl, Nat.zero_le _, rfl, by decide, by decide, rfl, ⟨kO.out, World.ownsRow_nil _ _ _ _⟩, Below.refl _ _, rfl, InR.nil, by simp [val, bp]⟩
      case round =>
        obtain ⟨k, m, os, Ao, co, rfl, hk, rfl, hm0, hm1, rfl, hout, hbel, hinv⟩ := hrel
        have hsz := hbel.size
        obtain ⟨c0, c1, f0, f1⟩ := blk2 hout.1
        have jA := Lib.hid ((hbel.block _ (by omega)).trans kA.out)
        have jB := Lib.hid ((hbel.block _ (by omega)).trans kB.out)
        have jR := Lib.hid ((hbel.block _ (by omega)).trans kR.out)
        obtain ⟨a0, a1, af0, af1⟩ := blk2 jA.out
        obtain ⟨b0, b1, bf0, bf1⟩ := blk2 jB.out
        have HO := Lib.hid hout
        have hol : os.length ≤ 1000 := by have := hinv.out.1; omega
        have hbw : Below w.heap.size w wr := hb0.trans (hbel.mono (by omega))
        have HdA := Lib.hid (H'.out.below hbw (Nat.le_refl _))
        have HdB := Lib.hid (H.out.below hbw (Nat.le_refl _))
        clear hout af0 af1 bf0 bf1 a0 b0
        by_cases hlt : k < n'
        · obtain ⟨d, hd⟩ : ∃ d, d = (digs y).getD k 0 := ⟨_, rfl⟩
          obtain ⟨d', hd'⟩ : ∃ d, d = (digs x).getD k 0 := ⟨_, rfl⟩
          have hdr := (digs_inR y).getD k
          have hdr' := (digs_inR x).getD k
          rw [← hd] at hdr
          rw [← hd'] at hdr'
          obtain ⟨hd0, hd1⟩ := hdr
          obtain ⟨hd0', hd1'⟩ := hdr'
          have HD := Lib.hid hd
          have HD' := Lib.hid hd'
          clear hd hd'
          have hw1 : IntKind.i64.wrap (d - d') = d - d' := IntWalk.i64_in _ (by omega)
          have hw2 : IntKind.i64.wrap (d - d' - m) = d - d' - m := IntWalk.i64_in _ (by omega)
          go_wp2
          go_quiet ((go_at_call 14; first | with_reducible exact Calls.quiet_of_same (at_is (HdA.out.drewN _) _ HD) | with_reducible exact Calls.quiet_of_same (at_is (HdB.out.drewN _) _ HD')))
          obtain ⟨wq, hwq⟩ : ∃ wq, wq = wr.drewN nq := ⟨_, rfl⟩
          rw [← hwq]
          have hwq' : wq.heap.size = wr.heap.size := by rw [hwq]; rfl
          replace HO : Hid (OutAt wq (w.heap.size + 1 + 1 + 1) false os Ao co) := by rw [hwq]; exact HO.out.drewN _
          replace hbel : Below (w.heap.size + 1 + 1 + 1) W0 wq := by rw [hwq]; exact below_drewN hbel _
          clear hwq c0 c1 f0 f1 a1 b1 jA jB jR hbw HdA HdB hw1 hw2
          have hsq : w.heap.size + 1 + 1 + 1 < wq.heap.size := by omega
          clear hwq' hsz
          obtain ⟨c0, c1, f0, f1⟩ := blk2 HO.out.1
          have HB := Lib.hid hbel
          clear hbel
          obtain ⟨s, hs⟩ : ∃ s, s = d - d' - m := ⟨_, rfl⟩
          rw [← hs]
          have hs0' : -65536 ≤ s := by omega
          have hs1' : s ≤ 65535 := by omega
          have HS := Lib.hid hs
          clear hs
          by_cases hneg : s < 0
          · go_wp2_with (at_builtin; refine wpList_append_own _ rfl (.tmp 97) (.tmp 99) 24 rfl (w.heap.size + 1 + 1 + 1 + 1) 3 i0 (.int .i64 0) 1 8 Tryd.underlying24 hi hz0 hz1 hz2 rfl (by decide) _ _ _ rfl (HO.out.2.alloc _) ⟨wq.heap.size, 0, none⟩ 1 1 [.int .i64 (s + 65536)] rfl rfl (cell_one_new _ _ _) (by intro u hu; simp at hu; subst hu; rfl) (by unfold maxLen; omega) (by omega) (by simp; omega) ?_; intro v' w1 hown' hgrow _; obtain ⟨hb1, A1, c1', rfl⟩ := HO.out.grown hgrow hown'; obtain ⟨cc0, cc1, ff0, ff1⟩ := blk2 hb1)
            have hbel2 : Below (w.heap.size + 1 + 1 + 1) W0 w1 := (HB.out.alloc (by omega) _).grown hgrow (by simp; omega) (fun b hb => by have := (HO.out.2.lt b hb).1; omega)
            have hnew := OutAt.stored hb1 hown'
            have hinv2 : (os ++ [s + 65536]).length = k + 1 ∧ InR (os ++ [s + 65536]) ∧ val (os ++ [s + 65536]) - bp (k + 1) * 1 = val ((digs y).take (k + 1)) - val ((digs x).take (k + 1)) := by
              obtain ⟨h1, h2, h3⟩ := hinv.out
              refine ⟨by simp [h1], h2.snoc (by omega) (by omega), ?_⟩
              rw [val_snoc, h1, val_take_succ, val_take_succ (digs x), ← HD.out, ← HD'.out]
              exact sub_step1 _ _ _ _ _ _ _ _ HS.out h3
            clear hgrow hown' cc0 cc1 ff0 ff1 c0 c1 f0 f1 hb1
            go_roundg (n' - (k + 1))
            case measure => omega
            case rel => exact ⟨k + 1, 1, os ++ [s + 65536], A1, c1', rfl, by omega, rfl, by omega, by omega, by go_num, hnew, hbel2.setCell (p := ⟨w.heap.size + 1 + 1 + 1, 1, none⟩) (Nat.le_refl _) _, hinv2⟩
          · go_wp2_with (at_builtin; refine wpList_append_own _ rfl (.tmp 97) (.tmp 99) 24 rfl (w.heap.size + 1 + 1 + 1 + 1) 3 i0 (.int .i64 0) 1 8 Tryd.underlying24 hi hz0 hz1 hz2 rfl (by decide) _ _ _ rfl (HO.out.2.alloc _) ⟨wq.heap.size, 0, none⟩ 1 1 [.int .i64 (s)] rfl rfl (cell_one_new _ _ _) (by intro u hu; simp at hu; subst hu; rfl) (by unfold maxLen; omega) (by omega) (by simp; omega) ?_; intro v' w1 hown' hgrow _; obtain ⟨hb1, A1, c1', rfl⟩ := HO.out.grown hgrow hown'; obtain ⟨cc0, cc1, ff0, ff1⟩ := blk2 hb1)
            have hbel2 : Below (w.heap.size + 1 + 1 + 1) W0 w1 := (HB.out.alloc (by omega) _).grown hgrow (by simp; omega) (fun b hb => by have := (HO.out.2.lt b hb).1; omega)
            have hnew := OutAt.stored hb1 hown'
            have hinv2 : (os ++ [s]).length = k + 1 ∧ InR (os ++ [s]) ∧ val (os ++ [s]) - bp (k + 1) * 0 = val ((digs y).take (k + 1)) - val ((digs x).take (k + 1)) := by
              obtain ⟨h1, h2, h3⟩ := hinv.out
              refine ⟨by simp [h1], h2.snoc (by omega) (by omega), ?_⟩
              rw [val_snoc, h1, val_take_succ, val_take_succ (digs x), ← HD.out, ← HD'.out]
              exact sub_step0 _ _ _ _ _ _ _ _ HS.out h3
            clear hgrow hown' cc0 cc1 ff0 ff1 c0 c1 f0 f1 hb1
            go_roundg (n' - (k + 1))
            case measure => omega
            case rel => exact ⟨k + 1, 0, os ++ [s], A1, c1', rfl, by omega, rfl, by omega, by omega, by go_num, hnew, hbel2.setCell (p := ⟨w.heap.size + 1 + 1 + 1, 1, none⟩) (Nat.le_refl _) _, hinv2⟩
        · have hz3 : Hid (z = if false = true then - val os else val os) := by
            obtain ⟨h1, h2, h3⟩ := hinv.out
            have e1 := HL'.out
            have e2 := HL.out
            have e3 := HLE.out
            have e4 := HXY.out
            have e5 := val_lt h2
            rw [val_take_all (by omega), val_take_all (by omega), val_digs, val_digs] at h3
            rw [h1] at e5
            have e6 : m = 0 := by
              rcases (by omega : m = 0 ∨ m = 1) with h | h
              · exact h
              · subst h; omega
            subst e6
            have e7 : val os = (y : Int) - x := by omega
            show z = _
            rw [e7]; exact HZ.out
          have hkn : k = n' := by omega
          have hdig := HO.out.digs
          go_wp2_with (go_at_call 15; refine (clean_num _ _ _ os _ hdig hinv.out.2.1 hz3.out).mono ?_; rintro e w' ⟨u, rfl, ⟨A2, n2, c2', rfl, hdig2⟩, hbel2⟩; have hres3 := block_kept jR.out hbel2; obtain ⟨dd0, dd1, gg0, gg1⟩ := blk2 hres3)
          refine bodyPost_ret (v := .agg #[.bool (decide (z < 0)), .slice A2 n2 c2']) (by simp [results, Tryd.results6, go_sem, dd0, dd1]) rfl ⟨_, rfl, num_stored ⟨_, _, _, rfl, hdig2⟩ hres3 _ _, ?_⟩
          exact below_stored ((hb0.trans (hbel.mono (by omega))).trans (hbel2.mono (by omega))) (by omega) _ _
    · have HLE : Hid ((digs y).length ≤ (digs x).length) := digs_len_le (by omega)
      have HZ : Hid (z = if true = true then - ((x : Int) - y) else (x : Int) - y) := by
        show z = _
        rw [hz]; simp <;> omega
      have HXY : Hid (y ≤ x) := (by omega : y ≤ x)
      obtain ⟨cm, hcm1⟩ : ∃ cm, cm = cmpN x y := ⟨_, rfl⟩
      have hcm2 : ¬ cm < 0 := by rw [hcm1]; unfold cmpN; rw [if_neg hxy]; split <;> decide
      have HCM := Lib.hid hcm1
      clear h h' hz hcm1 hxy
      go_enter Tryd.func6, Tryd.ntmps6
      go_wp2_with fail
      with_reducible refine (size_any _ _ _ x y (((H.out.alloc _).alloc _).alloc _) (((H'.out.alloc _).alloc _).alloc _)).mono ?_
      rw [← HCM.out]
      rintro e w' ⟨rfl, nd, rfl⟩
      obtain ⟨k0, k1, k2, k3, k4, k5⟩ := three_new w (.cells #[.bool true, .slice A n c] 26) (.cells #[.bool false, .slice A' n' c'] 26) (.cells #[.bool false, .slice none 0 0] 26) nd
      obtain ⟨W1, hW1⟩ : ∃ W1, W1 = (((w.alloc (.cells #[.bool true, .slice A n c] 26)).alloc (.cells #[.bool false, .slice A' n' c'] 26)).alloc (.cells #[.bool false, .slice none 0 0] 26)).drewN nd := ⟨_, rfl⟩
      rw [← hW1] at k0 k1 k2 k3 k4 ⊢
      clear hW1
      obtain ⟨a0, a1, af0, af1⟩ := blk2 k0
      obtain ⟨b0, b1, bf0, bf1⟩ := blk2 k1
      have K0 := Lib.hid k0
      have K1 := Lib.hid k1
      have K2 := Lib.hid k2
      have K4 := Lib.hid k4
      clear k0 k1 k2 k4 k5
      go_wp2_with fail
      clear a0 a1 af0 af1 b0 b1 bf0 bf1 hcm2 HCM
      obtain ⟨W0, hW0⟩ : ∃ W0, W0 = W1.alloc (.cells #[.bool true, .slice none 0 0] 26) := ⟨_, rfl⟩
      have es : W1.heap.size = w.heap.size + 1 + 1 + 1 := by exact k3
      have kA : Hid (W0.heap[w.heap.size]? = some (.cells #[.bool true, .slice A n c] 26 (0, 0))) := by rw [hW0]; exact block_old (K0.out) _
      have kB : Hid (W0.heap[w.heap.size + 1]? = some (.cells #[.bool false, .slice A' n' c'] 26 (0, 0))) := by rw [hW0]; exact block_old (K1.out) _
      have kR : Hid (W0.heap[w.heap.size + 1 + 1]? = some (.cells #[.bool false, .slice none 0 0] 26 (0, 0))) := by rw [hW0]; exact block_old (K2.out) _
      have kO : Hid (W0.heap[w.heap.size + 1 + 1 + 1]? = some (.cells #[.bool true, .slice none 0 0] 26 (0, 0))) := by rw [hW0, ← es]; exact block_new _ _
      have hb0 : Below w.heap.size w W0 := by rw [hW0]; exact Below.alloc (K4.out) (by rw [es]; omega) _
      have hs0 : w.heap.size + 1 + 1 + 1 < W0.heap.size := by rw [hW0]; simp only [World.size_alloc]; rw [es]; omega
      rw [← hW0]
      clear hW0 es k3 K0 K1 K2 K4
      go_loopg [10, 11] n (fun g sm si wx => ∃ (k : Nat) (m : Int) (os : List Int) (Ao : Option Addr) (co : Nat), g = n - k ∧ k ≤ n ∧ sm = .int .i64 m ∧ 0 ≤ m ∧ m ≤ 1 ∧ si = .int .i64 (k : Int) ∧
          OutAt wx (w.heap.size + 1 + 1 + 1) true os Ao co ∧ Below (w.heap.size + 1 + 1 + 1) W0 wx ∧ Hid (os.length = k ∧ InR os ∧ val os - bp k * m = val ((digs x).take k) - val ((digs y).take k)))
      case atStart => exact ⟨0, 0, [], none, 0, rfl, Nat.zero_le _, rfl, by decide, by decide, rfl, ⟨kO.out, World.ownsRow_nil _ _ _ _⟩, Below.refl _ _, rfl, InR.nil, by simp [val, bp]⟩
      case round =>
        obtain ⟨k, m, os, Ao, co, rfl, hk, rfl, hm0, hm1, rfl, hout, hbel, hinv⟩ := hrel
        have hsz := hbel.size
        obtain ⟨c0, c1, f0, f1⟩ := blk2 hout.1
        have jA := Lib.hid ((hbel.block _ (by omega)).trans kA.out)
        have jB := Lib.hid ((hbel.block _ (by omega)).trans kB.out)
        have jR := Lib.hid ((hbel.block _ (by omega)).trans kR.out)
        obtain ⟨a0, a1, af0, af1⟩ := blk2 jA.out
        obtain ⟨b0, b1, bf0, bf1⟩ := blk2 jB.out
        have HO := Lib.hid hout
        have hol : os.length ≤ 1000 := by have := hinv.out.1; omega
        have hbw : Below w.heap.size w wr := hb0.trans (hbel.mono (by omega))
        have HdA := Lib.hid (H.out.below hbw (Nat.le_refl _))
        have HdB := Lib.hid (H'.out.below hbw (Nat.le_refl _))
        clear hout af0 af1 bf0 bf1 a0 b0
        by_cases hlt : k < n
        · obtain ⟨d, hd⟩ : ∃ d, d = (digs x).getD k 0 := ⟨_, rfl⟩
          obtain ⟨d', hd'⟩ : ∃ d, d = (digs y).getD k 0 := ⟨_, rfl⟩
          have hdr := (digs_inR x).getD k
          have hdr' := (digs_inR y).getD k
          rw [← hd] at hdr
          rw [← hd'] at hdr'
          obtain ⟨hd0, hd1⟩ := hdr
          obtain ⟨hd0', hd1'⟩ := hdr'
          have HD := Lib.hid hd
          have HD' := Lib.hid hd'
          clear hd hd'
          have hw1 : IntKind.i64.wrap (d - d') = d - d' := IntWalk.i64_in _ (by omega)
          have hw2 : IntKind.i64.wrap (d - d' - m) = d - d' - m := IntWalk.i64_in _ (by omega)
          go_wp2
          go_quiet ((go_at_call 14; first | with_reducible exact Calls.quiet_of_same (at_is (HdA.out.drewN _) _ HD) | with_reducible exact Calls.quiet_of_same (at_is (HdB.out.drewN _) _ HD')))
          obtain ⟨wq, hwq⟩ : ∃ wq, wq = wr.drewN nq := ⟨_, rfl⟩
          rw [← hwq]
          have hwq' : wq.heap.size = wr.heap.size := by rw [hwq]; rfl
          replace HO : Hid (OutAt wq (w.heap.size + 1 + 1 + 1) true os Ao co) := by rw [hwq]; exact HO.out.drewN _
          replace hbel : Below (w.heap.size + 1 + 1 + 1) W0 wq := by rw [hwq]; exact below_drewN hbel _
          clear hwq c0 c1 f0 f1 a1 b1 jA jB jR hbw HdA HdB hw1 hw2
          have hsq : w.heap.size + 1 + 1 + 1 < wq.heap.size := by omega
          clear hwq' hsz
          obtain ⟨c0, c1, f0, f1⟩ := blk2 HO.out.1
          have HB := Lib.hid hbel
          clear hbel
          obtain ⟨s, hs⟩ : ∃ s, s = d - d' - m := ⟨_, rfl⟩
          rw [← hs]
          have hs0' : -65536 ≤ s := by omega
          have hs1' : s ≤ 65535 := by omega
          have HS := Lib.hid hs
          clear hs
          by_cases hneg : s < 0
          · go_wp2_with (at_builtin; refine wpList_append_own _ rfl (.tmp 97) (.tmp 99) 24 rfl (w.heap.size + 1 + 1 + 1 + 1) 3 i0 (.int .i64 0) 1 8 Tryd.underlying24 hi hz0 hz1 hz2 rfl (by decide) _ _ _ rfl (HO.out.2.alloc _) ⟨wq.heap.size, 0, none⟩ 1 1 [.int .i64 (s + 65536)] rfl rfl (cell_one_new _ _ _) (by intro u hu; simp at hu; subst hu; rfl) (by unfold maxLen; omega) (by omega) (by simp; omega) ?_; intro v' w1 hown' hgrow _; obtain ⟨hb1, A1, c1', rfl⟩ := HO.out.grown hgrow hown'; obtain ⟨cc0, cc1, ff0, ff1⟩ := blk2 hb1)
            have hbel2 : Below (w.heap.size + 1 + 1 + 1) W0 w1 := (HB.out.alloc (by omega) _).grown hgrow (by simp; omega) (fun b hb => by have := (HO.out.2.lt b hb).1; omega)
            have hnew := OutAt.stored hb1 hown'
            have hinv2 : (os ++ [s + 65536]).length = k + 1 ∧ InR (os ++ [s + 65536]) ∧ val (os ++ [s + 65536]) - bp (k + 1) * 1 = val ((digs x).take (k + 1)) - val ((digs y).take (k + 1)) := by
              obtain ⟨h1, h2, h3⟩ := hinv.out
              refine ⟨by simp [h1], h2.snoc (by omega) (by omega), ?_⟩
              rw [val_snoc, h1, val_take_succ, val_take_succ (digs y), ← HD.out, ← HD'.out]
              exact sub_step1 _ _ _ _ _ _ _ _ HS.out h3
            clear hgrow hown' cc0 cc1 ff0 ff1 c0 c1 f0 f1 hb1
            go_roundg (n - (k + 1))
            case measure => omega
            case rel => exact ⟨k + 1, 1, os ++ [s + 65536], A1, c1', rfl, by omega, rfl, by omega, by omega, by go_num, hnew, hbel2.setCell (p := ⟨w.heap.size + 1 + 1 + 1, 1, none⟩) (Nat.le_refl _) _, hinv2⟩
          · go_wp2_with (at_builtin; refine wpList_append_own _ rfl (.tmp 97) (.tmp 99) 24 rfl (w.heap.size + 1 + 1 + 1 + 1) 3 i0 (.int .i64 0) 1 8 Tryd.underlying24 hi hz0 hz1 hz2 rfl (by decide) _ _ _ rfl (HO.out.2.alloc _) ⟨wq.heap.size, 0, none⟩ 1 1 [.int .i64 (s)] rfl rfl (cell_one_new _ _ _) (by intro u hu; simp at hu; subst hu; rfl) (by unfold maxLen; omega) (by omega) (by simp; omega) ?_; intro v' w1 hown' hgrow _; obtain ⟨hb1, A1, c1', rfl⟩ := HO.out.grown hgrow hown'; obtain ⟨cc0, cc1, ff0, ff1⟩ := blk2 hb1)
            have hbel2 : Below (w.heap.size + 1 + 1 + 1) W0 w1 := (HB.out.alloc (by omega) _).grown hgrow (by simp; omega) (fun b hb => by have := (HO.out.2.lt b hb).1; omega)
            have hnew := OutAt.stored hb1 hown'
            have hinv2 : (os ++ [s]).length = k + 1 ∧ InR (os ++ [s]) ∧ val (os ++ [s]) - bp (k + 1) * 0 = val ((digs x).take (k + 1)) - val ((digs y).take (k + 1)) := by
              obtain ⟨h1, h2, h3⟩ := hinv.out
              refine ⟨by simp [h1], h2.snoc (by omega) (by omega), ?_⟩
              rw [val_snoc, h1, val_take_succ, val_take_succ (digs y), ← HD.out, ← HD'.out]
              exact sub_step0 _ _ _ _ _ _ _ _ HS.out h3
            clear hgrow hown' cc0 cc1 ff0 ff1 c0 c1 f0 f1 hb1
            go_roundg (n - (k + 1))
            case measure => omega
            case rel => exact ⟨k + 1, 0, os ++ [s], A1, c1', rfl, by omega, rfl, by omega, by omega, by go_num, hnew, hbel2.setCell (p := ⟨w.heap.size + 1 + 1 + 1, 1, none⟩) (Nat.le_refl _) _, hinv2⟩
        · have hz3 : Hid (z = if true = true then - val os else val os) := by
            obtain ⟨h1, h2, h3⟩ := hinv.out
            have e1 := HL.out
            have e2 := HL'.out
            have e3 := HLE.out
            have e4 := HXY.out
            have e5 := val_lt h2
            rw [val_take_all (by omega), val_take_all (by omega), val_digs, val_digs] at h3
            rw [h1] at e5
            have e6 : m = 0 := by
              rcases (by omega : m = 0 ∨ m = 1) with h | h
              · exact h
              · subst h; omega
            subst e6
            have e7 : val os = (x : Int) - y := by omega
            show z = _
            rw [e7]; exact HZ.out
          have hkn : k = n := by omega
          have hdig := HO.out.digs
          go_wp2_with (go_at_call 15; refine (clean_num _ _ _ os _ hdig hinv.out.2.1 hz3.out).mono ?_; rintro e w' ⟨u, rfl, ⟨A2, n2, c2', rfl, hdig2⟩, hbel2⟩; have hres3 := block_kept jR.out hbel2; obtain ⟨dd0, dd1, gg0, gg1⟩ := blk2 hres3)
          refine bodyPost_ret (v := .agg #[.bool (decide (z < 0)), .slice A2 n2 c2']) (by simp [results, Tryd.results6, go_sem, dd0, dd1]) rfl ⟨_, rfl, num_stored ⟨_, _, _, rfl, hdig2⟩ hres3 _ _, ?_⟩
          exact below_stored ((hb0.trans (hbel.mono (by omega))).trans (hbel2.mono (by omega))) (by omega) _ _

end Go.Proofs.YtkoihpfgleboiaaDoor
namespace Go.Proofs.YtkoihpfgleboiaaDoor
open Go.RowKit
theorem add_any (w : World) (u v : Value) (x y : Int) (h : NumIs w u x) (h' : NumIs w v y) (hf : Few x) (hf' : Few y) :
    Calls Tryd.prog 6 #[u, v] w fun e w' => ∃ u, e = .returned u ∧ NumIs w' u (x + y) ∧ Below w.heap.size w w' := by
  obtain ⟨A, n, c, rfl, hd⟩ := h
  obtain ⟨A', n', c', rfl, hd'⟩ := h'
  have h1 := hd.len.1
  have h2 := hd'.len.1
  unfold Few at hf hf'
  by_cases hx : x < 0 <;> by_cases hy : y < 0
  · rw [decide_eq_true hx, decide_eq_true hy]
    exact add_same w true A A' n n' c c' _ _ (x + y) hd hd' (digs_inR _) (digs_inR _) (by omega) (by omega) (by rw [if_pos rfl, val_digs, val_digs]; omega)
  · rw [decide_eq_true hx, decide_eq_false hy]
    exact add_diff w true A A' n n' c c' _ _ (x + y) hd hd' (by omega) (by omega) (by rw [if_pos rfl]; omega)
  · rw [decide_eq_false hx, decide_eq_true hy]
    exact add_diff w false A A' n n' c c' _ _ (x + y) hd hd' (by omega) (by omega) (by rw [if_neg (by decide)]; omega)
  · rw [decide_eq_false hx, decide_eq_false hy]
    exact add_same w false A A' n n' c c' _ _ (x + y) hd hd' (digs_inR _) (digs_inR _) (by omega) (by omega) (by rw [if_neg (by decide), val_digs, val_digs]; omega)
end Go.Proofs.YtkoihpfgleboiaaDoor
namespace Go.Proofs.YtkoihpfgleboiaaDoor
open Go.RowKit
theorem num_row {w : World} {g : Nat} {ds : List Int} {z : Nat} (hg : w.heap[g]? = some (.cells (ints ds).toArray 3 (0, 0))) (hr : InR ds) (ht : ds.getD (ds.length - 1) 0 ≠ 0) (hz : val ds = z) (hl : ds.length ≤ maxLen) :
    NumIs w (.agg #[.bool false, .slice (some ⟨g, 0, none⟩) ds.length ds.length]) z := by
  have hd : digs z = ds := by
    have := digs_of hr (.inr ht)
    rw [hz] at this
    simpa using this.symm
  refine ⟨_, _, _, by rw [decide_eq_false (by omega)], ?_⟩
  rw [show ((z : Int)).natAbs = z by simp, hd]
  exact Digs.of_row hg (by rw [List.take_of_length_le (by simp [ints])]) (Nat.le_refl _) hl

theorem made127 : ∀ W : World, (Instr.makeSlice 24 (.int .i64 8) (.int .i64 8)).run Tryd.prog W = .ok (.slice (some ⟨W.heap.size, 0, none⟩) 8 8) (W.alloc (.cells #[.int .i64 0, .int .i64 0, .int .i64 0, .int .i64 0, .int .i64 0, .int .i64 0, .int .i64 0, .int .i64 0] 3)) := fun _ => by kernel_rfl

set_option maxRecDepth 100000 in
set_option maxHeartbeats 1000000 in
theorem power127_any (w : World) (l : Int) (hl0 : 0 ≤ l) (hl1 : l ≤ 1) :
    Calls Tryd.prog 21 #[.int .i64 127, .int .i64 l] w fun e w' => ∃ u, e = .returned u ∧ NumIs w' u (170141183460469231731687303715884105728 - l) ∧ Below w.heap.size w w' := by
  have hmk := made127
  obtain ⟨z, hz⟩ : ∃ z : Int, z = 170141183460469231731687303715884105728 - l := ⟨_, rfl⟩
  rw [← hz]
  have HZ := Lib.hid hz
  clear hz
  have hfew : Few (170141183460469231731687303715884105728 : Int) := few_of_lt (k := 9) (by decide) (by decide)
  have hfew2 : Few (-l) := few_of_lt (k := 1) (by decide) (by simp only [bp]; omega)
  have HF := Lib.hid hfew
  have HF2 := Lib.hid hfew2
  clear hfew hfew2
  have e1 : (w.alloc (.cells #[.bool false, .slice none 0 0] 26)).heap.size = w.heap.size + 1 := by simp
  go_enter Tryd.func21, Tryd.ntmps21
  go_wp2_with fail
  obtain ⟨W1, hW1⟩ : ∃ W1, W1 = (w.alloc (.cells #[.bool false, .slice none 0 0] 26)).alloc (.cells #[.int .i64 0, .int .i64 0, .int .i64 0, .int .i64 0, .int .i64 0, .int .i64 0, .int .i64 0, .int .i64 32768] 3) := ⟨_, rfl⟩
  rw [← hW1]
  have hres : Hid (W1.heap[w.heap.size]? = some (.cells #[.bool false, .slice none 0 0] 26 (0, 0))) := by rw [hW1]; exact block_old (block_new _ _) _
  have hrow : Hid (W1.heap[w.heap.size + 1]? = some (.cells (ints [0, 0, 0, 0, 0, 0, 0, 32768]).toArray 3 (0, 0))) := by rw [hW1, ← e1]; exact block_new _ _
  have hb1 : Below w.heap.size w W1 := by rw [hW1]; exact ((Below.refl _ _).alloc (Nat.le_refl _) _).alloc (by rw [e1]; omega) _
  clear hW1 e1 hmk
  refine (small_any _ (-l) (by omega) (by omega)).mono ?_
  rintro e w2 ⟨u2, rfl, hu2, hb2⟩
  have HU := Lib.hid hu2
  have hnum : NumIs w2 (.agg #[.bool false, .slice (some ⟨w.heap.size + 1, 0, none⟩) 8 8]) (((170141183460469231731687303715884105728 : Nat) : Int)) := num_row (ds := [0, 0, 0, 0, 0, 0, 0, 32768]) (block_kept hrow.out hb2) (by intro d hd; simp at hd; omega) (by decide) (by decide) (by decide)
  have HN := Lib.hid hnum
  clear hu2 hnum
  go_wp2_with fail
  refine (add_any _ _ _ _ _ HN.out HU.out HF.out HF2.out).mono ?_
  rintro e w3 ⟨u3, rfl, hu3, hb3⟩
  rw [show (((170141183460469231731687303715884105728 : Nat) : Int)) + -l = z by rw [HZ.out]; omega] at hu3
  obtain ⟨A2, n2, c2, rfl, hdig2⟩ := hu3
  have hres3 := block_kept (block_kept hres.out hb2) hb3
  obtain ⟨dd0, dd1, gg0, gg1⟩ := blk2 hres3
  have HD := Lib.hid hdig2
  clear hdig2
  go_wp2_with fail
  refine bodyPost_ret (v := .agg #[.bool (decide (z < 0)), .slice A2 n2 c2]) (by simp [results, Tryd.results21, go_sem, dd0, dd1]) rfl ⟨_, rfl, num_stored ⟨_, _, _, rfl, HD.out⟩ hres3 _ _, ?_⟩
  exact below_stored ((hb1.trans (hb2.mono hb1.size)).trans (hb3.mono (Nat.le_trans hb1.size hb2.size))) (Nat.le_refl _) _ _

end Go.Proofs.YtkoihpfgleboiaaDoor
namespace Go.Proofs.YtkoihpfgleboiaaDoor
open Go.RowKit
theorem fld_D (b : Bool) (A : Option Addr) (n c : Nat) (w : World) : (Instr.field 26 (.agg #[.bool b, .slice A n c]) 1).run Tryd.prog w = .ok (.slice A n c) w := by kernel_rfl

theorem cmpN_le (m n : Nat) : (cmpN m n ≤ 0) = (m ≤ n) := by
  unfold cmpN
  apply propext
  split
  · constructor <;> intros <;> omega
  · split
    · constructor <;> intros <;> omega
    · constructor <;> intros <;> omega

set_option maxRecDepth 100000 in
set_option maxHeartbeats 1000000 in
theorem fits128_any (w : World) (v : Value) (z : Int) (h : NumIs w v z) :
    Calls Tryd.prog 9 #[v, .int .i64 128] w fun e w' => e = .returned (.bool (decide (-170141183460469231731687303715884105728 ≤ z ∧ z < 170141183460469231731687303715884105728))) ∧ Below w.heap.size w w' := by
  obtain ⟨A, n, c, rfl, hd⟩ := h
  have HD := Lib.hid hd
  clear hd
  by_cases hz : z < 0
  · have hp : ∀ W : World, Calls Tryd.prog 21 #[.int .i64 127, .int .i64 0] W fun e w' => ∃ u, e = .returned u ∧ NumIs w' u 170141183460469231731687303715884105728 ∧ Below W.heap.size W w' := fun W => power127_any W 0 (by decide) (by decide)
    have HP := Lib.hid hp
    have hres : Hid ((decide (cmpN z.natAbs 170141183460469231731687303715884105728 ≤ 0)) = decide (-170141183460469231731687303715884105728 ≤ z ∧ z < 170141183460469231731687303715884105728)) := by
      show _ = _
      simp only [cmpN_le]
      congr 1; apply propext; constructor <;> intros <;> omega
    rw [decide_eq_true hz]
    clear hp hz
    have hfld := fld_D
    obtain ⟨cm, hcm⟩ : ∃ cm, cm = cmpN z.natAbs 170141183460469231731687303715884105728 := ⟨_, rfl⟩
    rw [← hcm] at hres
    have HC := Lib.hid hcm
    clear hcm
    go_enter Tryd.func9, Tryd.ntmps9
    go_wp2
    go_region_held3 (fun w' => w'.cell? ⟨w.heap.size, 1, none⟩ = some (.slice A n c)) (first | assumption | (simp [go_sem]; done))
      (first
        | (go_at_call 21; refine (HP.out _).mono ?_; rintro e w1 ⟨u, rfl, ⟨A2, n2, c2, rfl, hd2⟩, hb⟩; have hs1 : w1.cell? ⟨w.heap.size, 1, none⟩ = some (.slice A n c) := (hb.cell (p := ⟨w.heap.size, 1, none⟩) (by simp)).trans (by simp [go_sem]); have hdA := Lib.hid ((HD.out.alloc (.cells #[.bool true, .slice A n c] 26)).drew.below hb (Nat.le_refl _)); have hdB := Lib.hid hd2; have HBEL := Lib.hid hb; clear hd2 hb)
        | (go_at_call 16; refine (size_any _ _ _ z.natAbs 170141183460469231731687303715884105728 hdA.out hdB.out).mono ?_; rw [← HC.out]; rintro e w2 ⟨rfl, nd, rfl⟩))
    go_wp2
    go_ret
    exact ⟨ret_bool hres.out, below_drewN ((((Below.refl _ _).alloc (Nat.le_refl _) _).drew).trans (HBEL.out.mono (by simp))) _⟩
  · have hp : ∀ W : World, Calls Tryd.prog 21 #[.int .i64 127, .int .i64 1] W fun e w' => ∃ u, e = .returned u ∧ NumIs w' u 170141183460469231731687303715884105727 ∧ Below W.heap.size W w' := fun W => power127_any W 1 (by decide) (by decide)
    have HP := Lib.hid hp
    have hres : Hid ((decide (cmpN z.natAbs 170141183460469231731687303715884105727 ≤ 0)) = decide (-170141183460469231731687303715884105728 ≤ z ∧ z < 170141183460469231731687303715884105728)) := by
      show _ = _
      simp only [cmpN_le]
      congr 1; apply propext; constructor <;> intros <;> omega
    rw [decide_eq_false hz]
    clear hp hz
    have hfld := fld_D
    obtain ⟨cm, hcm⟩ : ∃ cm, cm = cmpN z.natAbs 170141183460469231731687303715884105727 := ⟨_, rfl⟩
    rw [← hcm] at hres
    have HC := Lib.hid hcm
    clear hcm
    go_enter Tryd.func9, Tryd.ntmps9
    go_wp2
    go_region_held3 (fun w' => w'.cell? ⟨w.heap.size, 1, none⟩ = some (.slice A n c)) (first | assumption | (simp [go_sem]; done))
      (first
        | (go_at_call 21; refine (HP.out _).mono ?_; rintro e w1 ⟨u, rfl, ⟨A2, n2, c2, rfl, hd2⟩, hb⟩; have hs1 : w1.cell? ⟨w.heap.size, 1, none⟩ = some (.slice A n c) := (hb.cell (p := ⟨w.heap.size, 1, none⟩) (by simp)).trans (by simp [go_sem]); have hdA := Lib.hid ((HD.out.alloc (.cells #[.bool false, .slice A n c] 26)).drew.below hb (Nat.le_refl _)); have hdB := Lib.hid hd2; have HBEL := Lib.hid hb; clear hd2 hb)
        | (go_at_call 16; refine (size_any _ _ _ z.natAbs 170141183460469231731687303715884105727 hdA.out hdB.out).mono ?_; rw [← HC.out]; rintro e w2 ⟨rfl, nd, rfl⟩))
    go_wp2
    go_ret
    exact ⟨ret_bool hres.out, below_drewN ((((Below.refl _ _).alloc (Nat.le_refl _) _).drew).trans (HBEL.out.mono (by simp))) _⟩

end Go.Proofs.YtkoihpfgleboiaaDoor
namespace Go.Proofs.YtkoihpfgleboiaaDoor
open Go.RowKit
def In128 (z : Int) : Prop := -170141183460469231731687303715884105728 ≤ z ∧ z < 170141183460469231731687303715884105728

theorem fits128_no (w : World) (v : Value) (z : Int) (h : NumIs w v z) (hz : Hid (¬ In128 z)) :
    Calls Tryd.prog 9 #[v, .int .i64 128] w fun e w' => e = .returned (.bool false) ∧ Below w.heap.size w w' := by
  have := fits128_any w v z h
  rwa [show decide (-170141183460469231731687303715884105728 ≤ z ∧ z < 170141183460469231731687303715884105728) = false from decide_eq_false hz.out] at this
theorem fits128_yes (w : World) (v : Value) (z : Int) (h : NumIs w v z) (hz : Hid (In128 z)) :
    Calls Tryd.prog 9 #[v, .int .i64 128] w fun e w' => e = .returned (.bool true) ∧ Below w.heap.size w w' := by
  have := fits128_any w v z h
  rwa [show decide (-170141183460469231731687303715884105728 ≤ z ∧ z < 170141183460469231731687303715884105728) = true from decide_eq_true hz.out] at this

theorem one_new (w : World) (o : Obj) : (w.alloc o).heap[w.heap.size]? = some o ∧ Below w.heap.size w (w.alloc o) := ⟨block_new _ _, (Below.refl _ _).alloc (Nat.le_refl _) _⟩
end Go.Proofs.YtkoihpfgleboiaaDoor
namespace Go.Proofs.YtkoihpfgleboiaaDoor
open Go.RowKit
/-- The sum of a list. -/
def tot : List Int → Int
  | [] => 0
  | z :: r => z + tot r
theorem tot_snoc (l : List Int) (z : Int) : tot (l ++ [z]) = tot l + z := by
  induction l with
  | nil => simp [tot]
  | cons a t ih => simp only [List.cons_append, tot, ih]; omega
theorem tot_take_succ (l : List Int) (k : Nat) (h : k < l.length) : tot (l.take (k + 1)) = tot (l.take k) + l.getD k 0 := by
  rw [take_succ_of_lt h, tot_snoc]
theorem tot_bound {w : World} {A : Option Addr} {n : Nat} {zs : List Int} (h : Ints w A n zs) (_hn : n ≤ 1000) (k : Nat) (hk : k ≤ n) :
    -9223372036854775808 * (k : Int) ≤ tot (zs.take k) ∧ tot (zs.take k) ≤ 9223372036854775807 * (k : Int) := by
  induction k with
  | zero => simp [tot]
  | succ k ih =>
    have h1 := ih (by omega)
    have h2 := h.2.1 k
    rw [tot_take_succ _ _ (by rw [h.1]; omega)]
    push_cast
    omega
end Go.Proofs.YtkoihpfgleboiaaDoor
namespace Go.Proofs.YtkoihpfgleboiaaDoor
open Go.RowKit
/-- An answer of 128 bits is what it must be. -/
def WSpec (z h l er : Int) : Prop := (In128 z ∧ WOk h l ∧ wv h l = z ∧ er = 0) ∨ (¬ In128 z ∧ h = 0 ∧ l = 0 ∧ er = 4)

end Go.Proofs.YtkoihpfgleboiaaDoor
namespace Go.Proofs.YtkoihpfgleboiaaDoor
open Go.RowKit
/-- The sum of a list of wide numbers. -/
def wtot : List (Int × Int) → Int
  | [] => 0
  | z :: r => wv z.1 z.2 + wtot r
theorem wtot_snoc (l : List (Int × Int)) (z : Int × Int) : wtot (l ++ [z]) = wtot l + wv z.1 z.2 := by
  induction l with
  | nil => simp [wtot]
  | cons a t ih => simp only [List.cons_append, wtot, ih]; omega
theorem wtot_take_succ (l : List (Int × Int)) (k : Nat) (h : k < l.length) : wtot (l.take (k + 1)) = wtot (l.take k) + wv (l.getD k (0, 0)).1 (l.getD k (0, 0)).2 := by
  rw [List.take_succ_eq_append_getElem h, wtot_snoc, List.getD_eq_getElem?_getD, List.getElem?_eq_getElem h]
  rfl
/-- What stands in the three words behind k numbers. -/
def PInv (ps : List (Int × Int)) (k : Nat) (t h l : Int) : Prop := -(k : Int) ≤ t ∧ t ≤ k ∧ 0 ≤ h ∧ h ≤ 18446744073709551615 ∧ 0 ≤ l ∧ l ≤ 18446744073709551615 ∧ 340282366920938463463374607431768211456 * t + wv h l = wtot (ps.take k)

set_option maxRecDepth 100000 in
set_option maxHeartbeats 2000000 in
theorem fplus_any (w : World) (A : Option Addr) (n c : Nat) (ps : List (Int × Int)) (h : Pairs w A n ps) (hn : n ≤ 1000) :
    Calls Tryd.prog 20 #[.slice A n c] w fun e w' => ∃ h l er, e = .returned (.tuple #[.agg #[.int .i64 h, .int .u64 l], .int .i64 er]) ∧ Hid (WSpec (wtot ps) h l er) ∧ Below w.heap.size w w' := by
  have H := Lib.hid h
  clear h
  go_enter Tryd.func20, Tryd.ntmps20
  go_wp2
  obtain ⟨W0, hW0⟩ : ∃ W0, W0 = w.alloc (.cells #[.int .i64 0, .int .u64 0] 35) := ⟨_, rfl⟩
  have j := one_new w (.cells #[.int .i64 0, .int .u64 0] 35)
  rw [← hW0] at j ⊢
  have J := Lib.hid j
  clear hW0 j
  go_loopg [4, 5, 6, 12] n (fun (g : Nat) st sh sl si wx => ∃ (k : Nat) (t h l : Int), g = n - k ∧ k ≤ n ∧ st = .int .i64 t ∧ sh = .int .u64 h ∧ sl = .int .u64 l ∧ si = .int .i64 (k : Int) ∧
    Hid (wx.heap[w.heap.size]? = some (.cells #[.int .i64 0, .int .u64 0] 35 (0, 0)) ∧ PInv ps k t h l ∧ Below w.heap.size w wx))
  case atStart => exact ⟨0, 0, 0, 0, rfl, Nat.zero_le _, rfl, rfl, rfl, rfl, J.out.1, ⟨by decide, by decide, by decide, by decide, by decide, by decide, rfl⟩, J.out.2⟩
  case round =>
    obtain ⟨k, t, h, l, rfl, hk, rfl, rfl, rfl, rfl, hinv⟩ := hrel
    obtain ⟨t0, t1, tf0, tf1⟩ := blk2 hinv.out.1
    by_cases hlt : k < n
    · obtain ⟨b, o, rfl, hbl, hcs⟩ := H.out.2.2 (by omega)
      obtain ⟨p, hp⟩ : ∃ z, z = (ps.getD k (0, 0)).1 := ⟨_, rfl⟩
      obtain ⟨q, hq⟩ : ∃ z, z = (ps.getD k (0, 0)).2 := ⟨_, rfl⟩
      have hcp : wr.cell? ⟨b, o + k * 2, none⟩ = some (.int .i64 p) := by rw [hp]; exact (hinv.out.2.2.cell (p := ⟨b, o + k * 2, none⟩) hbl).trans (hcs k hlt).1
      have hcq : wr.cell? ⟨b, o + k * 2 + 1, none⟩ = some (.int .u64 q) := by rw [hq]; exact (hinv.out.2.2.cell (p := ⟨b, o + k * 2 + 1, none⟩) hbl).trans (hcs k hlt).2
      have hok := H.out.2.1 k
      rw [← hp, ← hq] at hok
      have HT : Hid (wtot (ps.take (k + 1)) = wtot (ps.take k) + wv p q) := by show _ = _; rw [hp, hq]; exact wtot_take_succ _ _ (by rw [H.out.1]; exact hlt)
      have BW : Hid (Below w.heap.size w wr) := hinv.out.2.2
      have KB := Lib.hid hinv.out.1
      obtain ⟨i0, i1, i2, i3, i4, i5, i6⟩ := hinv.out.2.1
      have I6 := Lib.hid i6
      obtain ⟨o0, o1, o2, o3⟩ := hok
      clear hp hq hcs hinv i6
      -- the words
      obtain ⟨up, hup⟩ : ∃ x, x = p % 18446744073709551616 := ⟨_, rfl⟩
      have wp : IntKind.u64.wrap p = up := by rw [u64_wrap, hup]
      obtain ⟨l', hl'⟩ : ∃ x, x = (l + q) % 18446744073709551616 := ⟨_, rfl⟩
      obtain ⟨c1, hc1⟩ : ∃ x, x = (l + q) / 18446744073709551616 := ⟨_, rfl⟩
      obtain ⟨h', hh'⟩ : ∃ x, x = (h + up + c1) % 18446744073709551616 := ⟨_, rfl⟩
      obtain ⟨c2, hc2⟩ : ∃ x, x = (h + up + c1) / 18446744073709551616 := ⟨_, rfl⟩
      have c10 : 0 ≤ c1 := by omega
      have c11 : c1 ≤ 1 := by omega
      have c20 : 0 ≤ c2 := by omega
      have c21 : c2 ≤ 1 := by omega
      have s0 : ∀ w, (callFunc 32 #[.int .u64 l, .int .u64 q, .int .u64 0]).run Tryd.prog w = .ok (.value (.tuple #[.int .u64 l', .int .u64 c1])) w := by
        intro w
        have := add64 l q 0 i4 o2 i5 o3 (by decide) (by decide) w
        rw [show l + q + 0 = l + q by omega, ← hl', ← hc1] at this
        exact this
      have s1 : ∀ w, (callFunc 32 #[.int .u64 h, .int .u64 up, .int .u64 c1]).run Tryd.prog w = .ok (.value (.tuple #[.int .u64 h', .int .u64 c2])) w := by
        intro w
        have := add64 h up c1 i2 (by omega) i3 (by omega) c10 c11 w
        rw [← hh', ← hc2] at this
        exact this
      have wc2 : IntKind.i64.wrap c2 = c2 := by rw [i64_wrap]; omega
      obtain ⟨sp, hsp⟩ : ∃ x, x = p / 9223372036854775808 := ⟨_, rfl⟩
      have hsp' : p / 9223372036854775808 = sp := hsp.symm
      obtain ⟨t', ht'⟩ : ∃ x, x = t + (sp + c2) := ⟨_, rfl⟩
      have hsp0 : -1 ≤ sp := by omega
      have hsp1 : sp ≤ 0 := by omega
      have INV : Hid (PInv ps (k + 1) t' h' l') := by
        show PInv _ _ _ _ _
        unfold PInv
        rw [HT.out, ← I6.out]
        unfold wv
        refine ⟨?_, ?_, ?_, ?_, ?_, ?_, ?_⟩ <;> omega
      have HT' := Lib.hid ht'
      clear hup hl' hc1 hh' hc2 hsp ht' I6 HT
      go_wp2_with (first | simp only [s0] | simp only [s1])
      rw [HT'.out.symm]
      go_roundg (n - (k + 1))
      case measure => omega
      case rel => exact ⟨k + 1, t', h', l', rfl, by omega, rfl, rfl, rfl, by go_num, block_old KB.out _, INV.out, BW.out.alloc BW.out.size _⟩
    · obtain rfl : k = n := by omega
      have BW : Hid (Below w.heap.size w wr) := hinv.out.2.2
      obtain ⟨i0, i1, i2, i3, i4, i5, i6⟩ := hinv.out.2.1
      have hall : ps.take k = ps := List.take_of_length_le (by rw [H.out.1]; omega)
      rw [hall] at i6
      obtain ⟨hs, hhs⟩ : ∃ x, x = (h + 9223372036854775808) % 18446744073709551616 - 9223372036854775808 := ⟨_, rfl⟩
      have wh : IntKind.i64.wrap h = hs := by rw [i64_wrap, hhs]
      obtain ⟨ss, hss⟩ : ∃ x, x = hs / 9223372036854775808 := ⟨_, rfl⟩
      have hss' : hs / 9223372036854775808 = ss := hss.symm
      have hs0 : -9223372036854775808 ≤ hs := by omega
      have hs1 : hs ≤ 9223372036854775807 := by omega
      have hss0 : -1 ≤ ss := by omega
      have hss1 : ss ≤ 0 := by omega
      by_cases ht : t = ss
      · have SP : Hid (WSpec (wtot ps) hs l 0) := by
          left
          rw [← i6]
          unfold In128 WOk wv
          refine ⟨⟨?_, ?_⟩, ⟨?_, ?_, ?_, ?_⟩, ?_, rfl⟩ <;> omega
        have hb : (t != ss) = false := by rw [ht]; simp
        clear hhs hss i6 ht hall hinv
        go_wp2
        refine bodyPost_ret (v := .tuple #[.agg #[.int .i64 hs, .int .u64 l], .int .i64 0]) (by simp [results, Tryd.results20, go_sem, t0, t1]) rfl ⟨_, _, _, rfl, SP, below_stored BW.out (Nat.le_refl _) _ _⟩
      · have SP : Hid (WSpec (wtot ps) 0 0 4) := by
          right
          rw [← i6]
          unfold In128 wv
          refine ⟨?_, rfl, rfl, rfl⟩
          omega
        have hb : (t != ss) = true := by rw [bne_iff_ne]; exact ht
        clear hhs hss i6 hall hinv
        go_wp2
        refine bodyPost_ret (v := .tuple #[.agg #[.int .i64 0, .int .u64 0], .int .i64 4]) (by simp [results, Tryd.results20, go_sem, t0, t1]) rfl ⟨_, _, _, rfl, SP, below_stored BW.out (Nat.le_refl _) _ _⟩
end Go.Proofs.YtkoihpfgleboiaaDoor

