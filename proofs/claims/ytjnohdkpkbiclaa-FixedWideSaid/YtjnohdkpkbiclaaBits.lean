/-
  The contract of the reference's 'Bits': the number of words of 16 bits in two's complement. Conditions: 1 to 1000 words, each below 65536.
-/
import Derived.Test.YtjnohdkpkbiclaaOut
namespace Go.Proofs.Ytjnohdkpkbiclaa
open Go.RowKit

/-- The number in two's complement. -/
def twos (ws : List Int) : Int := if ws.getD (ws.length - 1) 0 ≥ 32768 then val ws - bp ws.length else val ws

theorem bellowB {B : Nat} {W w1 : World} (hb : Below B W w1) : (∀ b o, b < B → w1.cell? ⟨b, o, none⟩ = W.cell? ⟨b, o, none⟩) ∧ (∀ b o, b < B → w1.frozen? ⟨b, o, none⟩ = W.frozen? ⟨b, o, none⟩) :=
  ⟨fun b o h => hb.cell (p := ⟨b, o, none⟩) h, fun b o h => hb.frozen (p := ⟨b, o, none⟩) h⟩

theorem block_kept {W w' : World} {b : Nat} {o : Obj} (hb : W.heap[b]? = some o) (hcl : Below W.heap.size W w') : w'.heap[b]? = some o :=
  (hcl.block b (Array.getElem?_eq_some_iff.1 hb).1).trans hb
theorem block_new (w : World) (o : Obj) : (w.alloc o).heap[w.heap.size]? = some o := heap_alloc_new w o
theorem block_old {w : World} {b : Nat} {x : Obj} (h : w.heap[b]? = some x) (o : Obj) : (w.alloc o).heap[b]? = some x := by
  rw [Below.heap_alloc w o b (Array.getElem?_eq_some_iff.1 h).1]; exact h
theorem block_grown {w w1 : World} {b : Nat} {x o : Obj} {row : Option Nat} (h : w.heap[b]? = some x) (hg : (w.alloc o).grownBy w1 row) (hne : some b ≠ row) : w1.heap[b]? = some x := by
  rw [hg.block b (by have := (Array.getElem?_eq_some_iff.1 h).1; simp; omega) hne, Below.heap_alloc w o b (Array.getElem?_eq_some_iff.1 h).1]
  exact h
theorem block_set {w : World} {b : Nat} {x : Obj} (h : w.heap[b]? = some x) {p : Addr} (hne : b ≠ p.block) (u : Value) : (w.setCell p u).heap[b]? = some x :=
  (Below.heap_setCell w p u b hne).trans h

set_option maxRecDepth 100000 in
set_option maxHeartbeats 4000000 in
theorem bits_any (w : World) (v : Value) (ws : List Int) (h : Digs w v ws) (hr : InR ws) (hl0 : 0 < ws.length) (hl1 : ws.length ≤ 1000) :
    Calls Try.prog 34 #[v] w fun e w' => ∃ u, e = .returned u ∧ NumIs w' u (twos ws) ∧ Below w.heap.size w w' := by
  obtain ⟨A, n, c, rfl⟩ := h.form
  obtain ⟨hn, hc, hm⟩ := h.len
  have hm' : n ≤ 1000 := by omega
  have hn0 : 0 < n := by omega
  obtain ⟨G, rfl, hG, hcell⟩ := h.some hn0
  have HN := Lib.hid hn
  obtain ⟨top, htop⟩ : ∃ d, d = ws.getD (n - 1) 0 := ⟨_, rfl⟩
  have hct := hcell (n - 1) (by omega)
  rw [← htop] at hct
  have HT := Lib.hid htop
  have HC := Lib.hid hcell
  have HR := Lib.hid hr
  clear h hn hm hl0 hl1 htop hcell hr
  obtain ⟨i0, hi, hz0, hz1, hz2⟩ := info_parts info_int
  by_cases ht : 32768 ≤ top
  · go_enter Try.func34, Try.ntmps34
    go_wp2
    obtain ⟨W0, hW0⟩ : ∃ W0, W0 = (w.alloc (.cells #[.bool false, .slice none 0 0] 25)).alloc (.cells #[.bool true, .slice none 0 0] 25) := ⟨_, rfl⟩
    have hres0 : W0.heap[w.heap.size]? = some (.cells #[.bool false, .slice none 0 0] 25 (0, 0)) := by rw [hW0]; exact block_old (block_new _ _) _
    have hout0 : W0.heap[w.heap.size + 1]? = some (.cells #[.bool true, .slice none 0 0] 25 (0, 0)) := by rw [hW0]; simpa using block_new (w.alloc (.cells #[.bool false, .slice none 0 0] 25)) (.cells #[.bool true, .slice none 0 0] 25)
    have hb0 : Below w.heap.size w W0 := by rw [hW0]; exact ((Below.refl _ _).alloc (Nat.le_refl _) _).alloc (by simp) _
    have hs0 : w.heap.size + 1 < W0.heap.size := by rw [hW0]; simp
    rw [← hW0]
    clear hW0
    have HRES := Lib.hid hres0
    clear hres0
    go_loopg [4, 5] n (fun g sm si wx => ∃ (k : Nat) (m : Int) (os : List Int) (A : Option Addr) (c : Nat), g = n - k ∧ k ≤ n ∧ sm = .int .i64 m ∧ 0 ≤ m ∧ m ≤ 1 ∧ si = .int .i64 (k : Int) ∧
        OutAt wx (w.heap.size + 1) true os A c ∧ Below (w.heap.size + 1) W0 wx ∧ Hid (os.length = k ∧ InR os ∧ val os + bp k * m = bp k - val (ws.take k)))
    case atStart => exact ⟨0, 1, [], none, 0, rfl, Nat.zero_le _, rfl, by decide, by decide, rfl, ⟨hout0, World.ownsRow_nil _ _ _ _⟩, Below.refl _ _, rfl, InR.nil, by simp [val, bp]⟩
    case round =>
      obtain ⟨k, m, os, A, c', rfl, hk, rfl, hm0, hm1, rfl, hout, hbel, hinv⟩ := hrel
      have hsz := hbel.size
      obtain ⟨c0, c1, f0, f1⟩ := blk2 hout.1
      have HO := Lib.hid hout
      have hol : os.length ≤ 1000 := by have := hinv.out.1; omega
      by_cases hlt : k < n
      · obtain ⟨d, hd⟩ : ∃ d, d = ws.getD k 0 := ⟨_, rfl⟩
        have hck : wr.cell? ⟨G, k, none⟩ = some (.int .i64 d) := by
          rw [(bellowB hbel).1 G k (by omega), (bellowB hb0).1 G k hG, HC.out k hlt, ← hd]
        have hdr := HR.out.getD k
        rw [← hd] at hdr
        obtain ⟨hd0, hd1⟩ := hdr
        have HD := Lib.hid hd
        clear hd hout
        go_wp2_with (at_builtin; refine wpList_append_own _ rfl (.tmp 36) (.tmp 38) 23 rfl (w.heap.size + 1 + 1) 3 i0 (.int .i64 0) 1 8 Try.underlying23 hi hz0 hz1 hz2 rfl (by decide) _ _ _ rfl (HO.out.2.alloc _) ⟨wr.heap.size, 0, none⟩ 1 1 [.int .i64 ((65535 - d + m) % 65536)] rfl rfl (cell_one_new _ _ _) (by intro u hu; simp at hu; subst hu; rfl) (by unfold maxLen; omega) (by omega) (by simp; omega) ?_; intro v' w1 hown' hgrow _; obtain ⟨hb1, A', c1', rfl⟩ := HO.out.grown hgrow hown'; obtain ⟨cc0, cc1, ff0, ff1⟩ := blk2 hb1)
        have hbel2 : Below (w.heap.size + 1) W0 w1 := (hbel.alloc (by omega) _).grown hgrow (by simp; omega) (fun b hb => by have := (HO.out.2.lt b hb).1; omega)
        have hnew := OutAt.stored hb1 hown'
        have hinv2 : (os ++ [(65535 - d + m) % 65536]).length = k + 1 ∧ InR (os ++ [(65535 - d + m) % 65536]) ∧ (val (os ++ [(65535 - d + m) % 65536]) + bp (k + 1) * ((65535 - d + m) / 65536) = bp (k + 1) - val (ws.take (k + 1))) := by
          obtain ⟨h1, h2, h3⟩ := hinv.out
          refine ⟨by simp [h1], h2.snoc (by omega) (by omega), ?_⟩
          rw [val_snoc, h1, val_take_succ, ← HD.out]
          simp only [bp]
          have e : (65535 - d + m) % 65536 + 65536 * ((65535 - d + m) / 65536) = 65535 - d + m := by omega
          have e2 : bp k * (65535 - d + m) = bp k * ((65535 - d + m) % 65536) + bp k * (65536 * ((65535 - d + m) / 65536)) := by rw [← Int.mul_add, e]
          simp only [Int.mul_add, Int.mul_sub] at e2 h3 ⊢
          have e3 : bp k * 65535 = 65535 * bp k := Int.mul_comm _ _
          have e4 : bp k * (65536 * ((65535 - d + m) / 65536)) = 65536 * bp k * ((65535 - d + m) / 65536) := by rw [← Int.mul_assoc, Int.mul_comm (bp k) 65536]
          omega
        clear hgrow hown' cc0 cc1 ff0 ff1 c0 c1 f0 f1 hb1
        go_roundg (n - (k + 1))
        case measure => omega
        case rel => exact ⟨k + 1, (65535 - d + m) / 65536, os ++ [(65535 - d + m) % 65536], A', c1', rfl, by omega, rfl, by omega, by omega, by go_num, hnew, hbel2.setCell (p := ⟨w.heap.size + 1, 1, none⟩) (Nat.le_refl _) _, hinv2⟩
      · have hkn : k = n := by omega
        subst hkn
        clear hout hk
        have hdig := HO.out.digs
        have hres1 : wr.heap[w.heap.size]? = some (.cells #[.bool false, .slice none 0 0] 25 (0, 0)) := (hbel.block _ (by omega)).trans HRES.out
        have hm2 : m = 0 ∨ m = 1 := by omega
        rcases hm2 with rfl | rfl
        · have hz : Hid (twos ws = if true = true then - val os else val os) := by
            obtain ⟨h1, h2, h3⟩ := hinv.out
            have e1 := HN.out
            rw [val_take_all (by omega)] at h3
            show twos ws = - val os
            unfold twos; rw [← e1, ← HT.out, if_pos ht]; omega
          go_wp2_with (go_at_call 39; refine (clean_num _ _ _ os _ hdig hinv.out.2.1 hz.out).mono ?_; rintro e w' ⟨u, rfl, ⟨A', n', c2', rfl, hdig2⟩, hbel2⟩; have hres2 := block_kept hres1 hbel2; obtain ⟨cc0, cc1, ff0, ff1⟩ := blk2 hres2)
          refine bodyPost_ret (v := .agg #[.bool (decide (twos ws < 0)), .slice A' n' c2']) (by simp [results, Try.results34, go_sem, cc0, cc1]) rfl ⟨_, rfl, num_stored ⟨_, _, _, rfl, hdig2⟩ hres2 _ _, ?_⟩
          exact below_stored ((hb0.trans (hbel.mono (by omega))).trans (hbel2.mono (by omega))) (by omega) _ _
        · have hz : Hid (twos ws = if true = true then - val (os ++ [1]) else val (os ++ [1])) := by
            obtain ⟨h1, h2, h3⟩ := hinv.out
            have e1 := HN.out
            rw [val_take_all (by omega)] at h3
            show twos ws = - val (os ++ [1])
            rw [val_snoc, h1]
            unfold twos; rw [← e1, ← HT.out, if_pos ht]; omega
          have hr1 : InR (os ++ [1]) := hinv.out.2.1.snoc (by decide) (by decide)
          go_wp2_with (first | (at_builtin; refine wpList_append_own _ rfl (.tmp 48) (.tmp 50) 23 rfl (w.heap.size + 1 + 1) 3 i0 (.int .i64 0) 1 8 Try.underlying23 hi hz0 hz1 hz2 rfl (by decide) _ _ _ rfl (HO.out.2.alloc _) ⟨wr.heap.size, 0, none⟩ 1 1 [.int .i64 1] rfl rfl (cell_one_new _ _ _) (by intro u hu; simp at hu; subst hu; rfl) (by unfold maxLen; omega) (by omega) (by simp; omega) ?_; intro v' w1 hown' hgrow _; obtain ⟨hb1, A', c1', rfl⟩ := HO.out.grown hgrow hown'; obtain ⟨cc0, cc1, ff0, ff1⟩ := blk2 hb1; have hnew := Lib.hid (OutAt.stored hb1 hown'); have hnd := hnew.out.digs; rw [List.length_append, List.length_singleton] at hnd; have hres2 := Lib.hid (block_set (block_grown hres1 hgrow (fun e => by have := (HO.out.2.lt _ e.symm).1; omega)) (p := ⟨w.heap.size + 1, 1, none⟩) (by simp) (.slice A' (os.length + 1) c1'))) | (go_at_call 39; refine (clean_num _ _ _ (os ++ [1]) _ hnd hr1 hz.out).mono ?_; rintro e w' ⟨u, rfl, ⟨A2, n', c2', rfl, hdig2⟩, hbel2⟩; have hres3 := block_kept hres2.out hbel2; obtain ⟨dd0, dd1, gg0, gg1⟩ := blk2 hres3))
          refine bodyPost_ret (v := .agg #[.bool (decide (twos ws < 0)), .slice A2 n' c2']) (by simp [results, Try.results34, go_sem, dd0, dd1]) rfl ⟨_, rfl, num_stored ⟨_, _, _, rfl, hdig2⟩ hres3 _ _, ?_⟩
          have hbel3 : Below (w.heap.size + 1) W0 w1 := (hbel.alloc (by omega) _).grown hgrow (by simp; omega) (fun b hb => by have := (HO.out.2.lt b hb).1; omega)
          have hbel4 := hbel3.setCell (p := ⟨w.heap.size + 1, 1, none⟩) (Nat.le_refl _) (.slice A' (os.length + 1) c1')
          exact below_stored ((hb0.trans (hbel4.mono (by omega))).trans (hbel2.mono (by have := hbel4.size; omega))) (by omega) _ _

  · go_enter Try.func34, Try.ntmps34
    go_wp2
    obtain ⟨W0, hW0⟩ : ∃ W0, W0 = (w.alloc (.cells #[.bool false, .slice none 0 0] 25)).alloc (.cells #[.bool false, .slice none 0 0] 25) := ⟨_, rfl⟩
    have hres0 : W0.heap[w.heap.size]? = some (.cells #[.bool false, .slice none 0 0] 25 (0, 0)) := by rw [hW0]; exact block_old (block_new _ _) _
    have hout0 : W0.heap[w.heap.size + 1]? = some (.cells #[.bool false, .slice none 0 0] 25 (0, 0)) := by rw [hW0]; simpa using block_new (w.alloc (.cells #[.bool false, .slice none 0 0] 25)) (.cells #[.bool false, .slice none 0 0] 25)
    have hb0 : Below w.heap.size w W0 := by rw [hW0]; exact ((Below.refl _ _).alloc (Nat.le_refl _) _).alloc (by simp) _
    have hs0 : w.heap.size + 1 < W0.heap.size := by rw [hW0]; simp
    rw [← hW0]
    clear hW0
    have HRES := Lib.hid hres0
    clear hres0
    go_loopg [4, 5] n (fun g sm si wx => ∃ (k : Nat) (m : Int) (os : List Int) (A : Option Addr) (c : Nat), g = n - k ∧ k ≤ n ∧ sm = .int .i64 m ∧ 0 ≤ m ∧ m ≤ 1 ∧ si = .int .i64 (k : Int) ∧
        OutAt wx (w.heap.size + 1) false os A c ∧ Below (w.heap.size + 1) W0 wx ∧ Hid (os.length = k ∧ InR os ∧ m = 1 ∧ val os = val (ws.take k)))
    case atStart => exact ⟨0, 1, [], none, 0, rfl, Nat.zero_le _, rfl, by decide, by decide, rfl, ⟨hout0, World.ownsRow_nil _ _ _ _⟩, Below.refl _ _, rfl, InR.nil, by simp [val]⟩
    case round =>
      obtain ⟨k, m, os, A, c', rfl, hk, rfl, hm0, hm1, rfl, hout, hbel, hinv⟩ := hrel
      have hsz := hbel.size
      obtain ⟨c0, c1, f0, f1⟩ := blk2 hout.1
      have HO := Lib.hid hout
      have hol : os.length ≤ 1000 := by have := hinv.out.1; omega
      by_cases hlt : k < n
      · obtain ⟨d, hd⟩ : ∃ d, d = ws.getD k 0 := ⟨_, rfl⟩
        have hck : wr.cell? ⟨G, k, none⟩ = some (.int .i64 d) := by
          rw [(bellowB hbel).1 G k (by omega), (bellowB hb0).1 G k hG, HC.out k hlt, ← hd]
        have hdr := HR.out.getD k
        rw [← hd] at hdr
        obtain ⟨hd0, hd1⟩ := hdr
        have HD := Lib.hid hd
        clear hd hout
        go_wp2_with (at_builtin; refine wpList_append_own _ rfl (.tmp 36) (.tmp 38) 23 rfl (w.heap.size + 1 + 1) 3 i0 (.int .i64 0) 1 8 Try.underlying23 hi hz0 hz1 hz2 rfl (by decide) _ _ _ rfl (HO.out.2.alloc _) ⟨wr.heap.size, 0, none⟩ 1 1 [.int .i64 (d)] rfl rfl (cell_one_new _ _ _) (by intro u hu; simp at hu; subst hu; rfl) (by unfold maxLen; omega) (by omega) (by simp; omega) ?_; intro v' w1 hown' hgrow _; obtain ⟨hb1, A', c1', rfl⟩ := HO.out.grown hgrow hown'; obtain ⟨cc0, cc1, ff0, ff1⟩ := blk2 hb1)
        have hbel2 : Below (w.heap.size + 1) W0 w1 := (hbel.alloc (by omega) _).grown hgrow (by simp; omega) (fun b hb => by have := (HO.out.2.lt b hb).1; omega)
        have hnew := OutAt.stored hb1 hown'
        have hinv2 : (os ++ [d]).length = k + 1 ∧ InR (os ++ [d]) ∧ (m = 1 ∧ val (os ++ [d]) = val (ws.take (k + 1))) := by
          obtain ⟨h1, h2, h3⟩ := hinv.out
          refine ⟨by simp [h1], h2.snoc (by omega) (by omega), ?_⟩
          rw [val_snoc, h1, val_take_succ, ← HD.out]
          have e3 : m = 1 := by have := h3.1; omega
          subst e3
          obtain ⟨_, h3⟩ := h3
          omega
        clear hgrow hown' cc0 cc1 ff0 ff1 c0 c1 f0 f1 hb1
        go_roundg (n - (k + 1))
        case measure => omega
        case rel => exact ⟨k + 1, m, os ++ [d], A', c1', rfl, by omega, rfl, by omega, by omega, by go_num, hnew, hbel2.setCell (p := ⟨w.heap.size + 1, 1, none⟩) (Nat.le_refl _) _, hinv2⟩
      · have hkn : k = n := by omega
        subst hkn
        clear hout hk
        have hdig := HO.out.digs
        have hres1 : wr.heap[w.heap.size]? = some (.cells #[.bool false, .slice none 0 0] 25 (0, 0)) := (hbel.block _ (by omega)).trans HRES.out
        have hz : Hid (twos ws = if false = true then - val os else val os) := by
          obtain ⟨h1, h2, h3, h4⟩ := hinv.out
          have e1 := HN.out
          rw [val_take_all (by omega)] at h4
          show twos ws = val os
          unfold twos; rw [← e1, ← HT.out, if_neg (by omega)]; omega
        go_wp2_with (go_at_call 39; refine (clean_num _ _ _ os _ hdig hinv.out.2.1 hz.out).mono ?_; rintro e w' ⟨u, rfl, ⟨A', n', c2', rfl, hdig2⟩, hbel2⟩; have hres2 := block_kept hres1 hbel2; obtain ⟨cc0, cc1, ff0, ff1⟩ := blk2 hres2)
        refine bodyPost_ret (v := .agg #[.bool (decide (twos ws < 0)), .slice A' n' c2']) (by simp [results, Try.results34, go_sem, cc0, cc1]) rfl ⟨_, rfl, num_stored ⟨_, _, _, rfl, hdig2⟩ hres2 _ _, ?_⟩
        exact below_stored ((hb0.trans (hbel.mono (by omega))).trans (hbel2.mono (by omega))) (by omega) _ _

end Go.Proofs.Ytjnohdkpkbiclaa
