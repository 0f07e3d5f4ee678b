/-
  The contract of the reference's 'Add': the sum. Conditions: each number has at most 1000 digits.
-/
import Derived.Test.YtjnohdkpkbiclaaSmall
import Derived.Test.YtjnohdkpkbiclaaAt
import Derived.IntWalk
namespace Go.Proofs.Ytjnohdkpkbiclaa
open Go.RowKit

theorem at_is {w : World} {v : Value} {ds : List Int} (h : Digs w v ds) (i : Nat) {d : Int} (hd : Hid (d = ds.getD i 0)) :
    Calls Try.prog 38 #[v, .int .i64 (i : Int)] w fun e w' => e = .returned (.int .i64 d) ∧ w' = w :=
  (at_any w v ds i h).mono fun _ _ ⟨he, hw⟩ => ⟨by rw [he, hd.out], hw.symm⟩

theorem OutAt.drewN {w : World} {b : Nat} {neg : Bool} {os : List Int} {A : Option Addr} {c : Nat} (h : OutAt w b neg os A c) (n : Nat) : OutAt (w.drewN n) b neg os A c := h

/-- Few enough digits. -/
def Few (x : Int) : Prop := (digs x.natAbs).length ≤ 1000

theorem add_step (p d0 d1 m s k0 : Int) (hs : s = d0 + d1 + m) : p + k0 * (s % 65536) + 65536 * k0 * (s / 65536) = p + k0 * m + k0 * d0 + k0 * d1 := by
  have e : s % 65536 + 65536 * (s / 65536) = d0 + d1 + m := by omega
  have e2 : k0 * (d0 + d1 + m) = k0 * (s % 65536) + k0 * (65536 * (s / 65536)) := by rw [← Int.mul_add, e]
  have e4 : k0 * (65536 * (s / 65536)) = 65536 * k0 * (s / 65536) := by rw [← Int.mul_assoc, Int.mul_comm k0 65536]
  simp only [Int.mul_add] at e2
  omega

set_option maxRecDepth 100000 in
set_option maxHeartbeats 1000000 in
theorem add_same (w : World) (bn : Bool) (A A' : Option Addr) (n n' c c' : Nat) (ds ds' : List Int) (z : Int) (h : Digs w (.slice A n c) ds) (h' : Digs w (.slice A' n' c') ds') (hr : InR ds) (hr' : InR ds')
    (hn : n ≤ 1000) (hn' : n' ≤ 1000) (hz : z = if bn then - (val ds + val ds') else val ds + val ds') :
    Calls Try.prog 13 #[.agg #[.bool bn, .slice A n c], .agg #[.bool bn, .slice A' n' c']] w fun e w' => ∃ u, e = .returned u ∧ NumIs w' u z ∧ Below w.heap.size w w' := by
  have HL := Lib.hid h.len.1
  have HL' := Lib.hid h'.len.1
  have H := Lib.hid h
  have H' := Lib.hid h'
  have HR := Lib.hid hr
  have HR' := Lib.hid hr'
  have HZ := Lib.hid hz
  clear h h' hr hr' hz
  obtain ⟨i0, hi, hz0, hz1, hz2⟩ := info_parts info_int
  go_enter Try.func13, Try.ntmps13
  go_wp2
  obtain ⟨W0, hW0⟩ : ∃ W0, W0 = (((w.alloc (.cells #[.bool bn, .slice A n c] 25)).alloc (.cells #[.bool bn, .slice A' n' c'] 25)).alloc (.cells #[.bool false, .slice none 0 0] 25)).alloc (.cells #[.bool bn, .slice none 0 0] 25) := ⟨_, rfl⟩
  have e1 : (w.alloc (.cells #[.bool bn, .slice A n c] 25)).heap.size = w.heap.size + 1 := by simp
  have e2 : ((w.alloc (.cells #[.bool bn, .slice A n c] 25)).alloc (.cells #[.bool bn, .slice A' n' c'] 25)).heap.size = w.heap.size + 1 + 1 := by simp
  have e3 : (((w.alloc (.cells #[.bool bn, .slice A n c] 25)).alloc (.cells #[.bool bn, .slice A' n' c'] 25)).alloc (.cells #[.bool false, .slice none 0 0] 25)).heap.size = w.heap.size + 1 + 1 + 1 := by simp
  have kA : Hid (W0.heap[w.heap.size]? = some (.cells #[.bool bn, .slice A n c] 25 (0, 0))) := by rw [hW0]; exact block_old (block_old (block_old (block_new _ _) _) _) _
  have kB : Hid (W0.heap[w.heap.size + 1]? = some (.cells #[.bool bn, .slice A' n' c'] 25 (0, 0))) := by rw [hW0, ← e1]; exact block_old (block_old (block_new _ _) _) _
  have kR : Hid (W0.heap[w.heap.size + 1 + 1]? = some (.cells #[.bool false, .slice none 0 0] 25 (0, 0))) := by rw [hW0, ← e2]; exact block_old (block_new _ _) _
  have kO : Hid (W0.heap[w.heap.size + 1 + 1 + 1]? = some (.cells #[.bool bn, .slice none 0 0] 25 (0, 0))) := by rw [hW0, ← e3]; exact block_new _ _
  have hb0 : Below w.heap.size w W0 := by rw [hW0]; exact ((((Below.refl _ _).alloc (Nat.le_refl _) _).alloc (by simp) _).alloc (by simp; omega) _).alloc (by simp; omega) _
  have hs0 : w.heap.size + 1 + 1 + 1 < W0.heap.size := by rw [hW0]; simp
  rw [← hW0]
  clear hW0 e1 e2 e3
  go_loopg [6, 7] (max n n') (fun g sm si wx => ∃ (k : Nat) (m : Int) (os : List Int) (Ao : Option Addr) (co : Nat), g = max n n' - k ∧ k ≤ max n n' ∧ sm = .int .i64 m ∧ 0 ≤ m ∧ m ≤ 1 ∧ si = .int .i64 (k : Int) ∧
      OutAt wx (w.heap.size + 1 + 1 + 1) bn os Ao co ∧ Below (w.heap.size + 1 + 1 + 1) W0 wx ∧ Hid (os.length = k ∧ InR os ∧ val os + bp k * m = val (ds.take k) + val (ds'.take k)))
  case atStart => exact ⟨0, 0, [], none, 0, rfl, Nat.zero_le _, rfl, by decide, by decide, rfl, ⟨kO.out, World.ownsRow_nil _ _ _ _⟩, Below.refl _ _, rfl, InR.nil, by simp [val, bp]⟩
  case round =>
    obtain ⟨k, m, os, Ao, co, rfl, hk, rfl, hm0, hm1, rfl, hout, hbel, hinv⟩ := hrel
    have hsz := hbel.size
    obtain ⟨c0, c1, f0, f1⟩ := blk2 hout.1
    have jA := Lib.hid ((hbel.block _ (by omega)).trans kA.out)
    have jB := Lib.hid ((hbel.block _ (by omega)).trans kB.out)
    have jR := Lib.hid ((hbel.block _ (by omega)).trans kR.out)
    obtain ⟨a0, a1, af0, af1⟩ := blk2 jA.out
    obtain ⟨b0, b1, bf0, bf1⟩ := blk2 jB.out
    have HO := Lib.hid hout
    have hol : os.length ≤ 1000 := by have := hinv.out.1; omega
    have hbw : Below w.heap.size w wr := hb0.trans (hbel.mono (by omega))
    have HdA := Lib.hid (H.out.below hbw (Nat.le_refl _))
    have HdB := Lib.hid (H'.out.below hbw (Nat.le_refl _))
    clear hout af0 af1 bf0 bf1 a0 b0
    by_cases hlt : k < n ∨ k < n'
    · obtain ⟨d, hd⟩ : ∃ d, d = ds.getD k 0 := ⟨_, rfl⟩
      obtain ⟨d', hd'⟩ : ∃ d, d = ds'.getD k 0 := ⟨_, rfl⟩
      have hdr := HR.out.getD k
      have hdr' := HR'.out.getD k
      rw [← hd] at hdr
      rw [← hd'] at hdr'
      obtain ⟨hd0, hd1⟩ := hdr
      obtain ⟨hd0', hd1'⟩ := hdr'
      have HD := Lib.hid hd
      have HD' := Lib.hid hd'
      clear hd hd'
      have hw1 : IntKind.i64.wrap (d + d') = d + d' := IntWalk.i64_in _ (by omega)
      have hw2 : IntKind.i64.wrap (d + d' + m) = d + d' + m := IntWalk.i64_in _ (by omega)
      rcases (by omega : k < n ∨ (¬ k < n ∧ k < n')) with hka | ⟨hka, hkb⟩
      all_goals
        go_wp2
        go_quiet ((go_at_call 38; first | with_reducible exact Calls.quiet_of_same (at_is (HdA.out.drewN _) _ HD) | with_reducible exact Calls.quiet_of_same (at_is (HdB.out.drewN _) _ HD')))
        obtain ⟨wq, hwq⟩ : ∃ wq, wq = wr.drewN nq := ⟨_, rfl⟩
        rw [← hwq]
        have hwq' : wq.heap.size = wr.heap.size := by rw [hwq]; rfl
        replace HO : Hid (OutAt wq (w.heap.size + 1 + 1 + 1) bn os Ao co) := by rw [hwq]; exact HO.out.drewN _
        replace hbel : Below (w.heap.size + 1 + 1 + 1) W0 wq := by rw [hwq]; exact below_drewN hbel _
        clear hwq c0 c1 f0 f1 a1 b1 jA jB jR hbw HdA HdB hw1 hw2
        have hsq : w.heap.size + 1 + 1 + 1 < wq.heap.size := by omega
        clear hwq' hsz
        obtain ⟨c0, c1, f0, f1⟩ := blk2 HO.out.1
        have HB := Lib.hid hbel
        clear hbel
        obtain ⟨s, hs⟩ : ∃ s, s = d + d' + m := ⟨_, rfl⟩
        rw [← hs]
        have hs0' : 0 ≤ s := by omega
        have hs1' : s ≤ 131071 := by omega
        have HS := Lib.hid hs
        clear hs
        go_wp2_with (at_builtin; refine wpList_append_own _ rfl (.tmp 47) (.tmp 50) 23 rfl (w.heap.size + 1 + 1 + 1 + 1) 3 i0 (.int .i64 0) 1 8 Try.underlying23 hi hz0 hz1 hz2 rfl (by decide) _ _ _ rfl (HO.out.2.alloc _) ⟨wq.heap.size, 0, none⟩ 1 1 [.int .i64 (s % 65536)] rfl rfl (cell_one_new _ _ _) (by intro u hu; simp at hu; subst hu; rfl) (by unfold maxLen; omega) (by omega) (by simp; omega) ?_; intro v' w1 hown' hgrow _; obtain ⟨hb1, A1, c1', rfl⟩ := HO.out.grown hgrow hown'; obtain ⟨cc0, cc1, ff0, ff1⟩ := blk2 hb1)
        have hbel2 : Below (w.heap.size + 1 + 1 + 1) W0 w1 := (HB.out.alloc (by omega) _).grown hgrow (by simp; omega) (fun b hb => by have := (HO.out.2.lt b hb).1; omega)
        have hnew := OutAt.stored hb1 hown'
        have hinv2 : (os ++ [s % 65536]).length = k + 1 ∧ InR (os ++ [s % 65536]) ∧ val (os ++ [s % 65536]) + bp (k + 1) * (s / 65536) = val (ds.take (k + 1)) + val (ds'.take (k + 1)) := by
          obtain ⟨h1, h2, h3⟩ := hinv.out
          refine ⟨by simp [h1], h2.snoc (by omega) (by omega), ?_⟩
          rw [val_snoc, h1, val_take_succ, val_take_succ ds', ← HD.out, ← HD'.out]
          have h4 := add_step (val os) d d' m s (bp k) HS.out
          simp only [bp] at h4 ⊢
          omega
        clear hgrow hown' cc0 cc1 ff0 ff1 c0 c1 f0 f1 hb1
        go_roundg (max n n' - (k + 1))
        case measure => omega
        case rel => exact ⟨k + 1, s / 65536, os ++ [s % 65536], A1, c1', rfl, by omega, rfl, by omega, by omega, by go_num, hnew, hbel2.setCell (p := ⟨w.heap.size + 1 + 1 + 1, 1, none⟩) (Nat.le_refl _) _, hinv2⟩
    · have hka : ¬ k < n := by omega
      have hkb : ¬ k < n' := by omega
      have hz3 : Hid (z = if bn = true then - val (os ++ [m]) else val (os ++ [m])) := by
        obtain ⟨h1, h2, h3⟩ := hinv.out
        have e1 := HL.out
        have e2 := HL'.out
        rw [val_take_all (by omega), val_take_all (by omega)] at h3
        have e3 : val (os ++ [m]) = val ds + val ds' := by rw [val_snoc, h1]; omega
        show z = _
        rw [e3]; exact HZ.out
      have hr1 : InR (os ++ [m]) := hinv.out.2.1.snoc (by omega) (by omega)
      go_wp2_with (first | (at_builtin; refine wpList_append_own _ rfl (.tmp 56) (.tmp 58) 23 rfl (w.heap.size + 1 + 1 + 1 + 1) 3 i0 (.int .i64 0) 1 8 Try.underlying23 hi hz0 hz1 hz2 rfl (by decide) _ _ _ rfl (HO.out.2.alloc _) ⟨wr.heap.size, 0, none⟩ 1 1 [.int .i64 m] rfl rfl (cell_one_new _ _ _) (by intro u hu; simp at hu; subst hu; rfl) (by unfold maxLen; omega) (by omega) (by simp; omega) ?_; intro v' w1 hown' hgrow _; obtain ⟨hb1, A1, c1', rfl⟩ := HO.out.grown hgrow hown'; obtain ⟨cc0, cc1, ff0, ff1⟩ := blk2 hb1; have hnew := Lib.hid (OutAt.stored hb1 hown'); have hnd := Lib.hid hnew.out.digs; have hres2 := Lib.hid (block_set (block_grown jR.out hgrow (fun e => by have := (HO.out.2.lt _ e.symm).1; omega)) (p := ⟨w.heap.size + 1 + 1 + 1, 1, none⟩) (by simp) (.slice A1 (os.length + 1) c1'))) | (go_at_call 39; refine (clean_num _ _ _ (os ++ [m]) _ (by have := hnd.out; rwa [List.length_append, List.length_singleton] at this) hr1 hz3.out).mono ?_; rintro e w' ⟨u, rfl, ⟨A2, n2, c2', rfl, hdig2⟩, hbel2⟩; have hres3 := block_kept hres2.out hbel2; obtain ⟨dd0, dd1, gg0, gg1⟩ := blk2 hres3))
      refine bodyPost_ret (v := .agg #[.bool (decide (z < 0)), .slice A2 n2 c2']) (by simp [results, Try.results13, go_sem, dd0, dd1]) rfl ⟨_, rfl, num_stored ⟨_, _, _, rfl, hdig2⟩ hres3 _ _, ?_⟩
      have hbel3 : Below (w.heap.size + 1 + 1 + 1) W0 w1 := (hbel.alloc (by omega) _).grown hgrow (by simp; omega) (fun b hb => by have := (HO.out.2.lt b hb).1; omega)
      have hbel4 := hbel3.setCell (p := ⟨w.heap.size + 1 + 1 + 1, 1, none⟩) (Nat.le_refl _) (.slice A1 (os.length + 1) c1')
      exact below_stored ((hb0.trans (hbel4.mono (by omega))).trans (hbel2.mono (by have := hbel4.size; omega))) (by omega) _ _
end Go.Proofs.Ytjnohdkpkbiclaa
