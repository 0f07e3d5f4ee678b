/-
  The contract of ident's Words. Conditions: a text of at most 500 bytes.
-/
import Derived.Test.YtcidbmkmnlneiaaICut
namespace Go.Proofs.Ytcidbmkmnlneiaa.Id
open Go.RowKit

theorem wst_start (s : ByteArray) : (wst s 0).1 = 0 ∧ (wst s 0).2 = [] := ⟨rfl, rfl⟩

set_option maxRecDepth 100000 in
set_option maxHeartbeats 4000000 in
theorem words_any (w : World) (s : ByteArray) (hs : s.size ≤ 500) :
    Calls Try.prog 21 #[.string s] w fun e w' => ∃ v, e = .returned v ∧ w'.ownsRow (w.heap.size + 4) 9 1 v (wordsOf s).length (strV (wordsOf s)) ∧ Below w.heap.size w w' := by
  obtain ⟨cv, cw, hcv, hcp⟩ := str_bytes s
  have HCP := Lib.hid hcp
  clear hcp
  go_enter Try.func21, Try.ntmps21
  go_wp2_with fail
  obtain ⟨W1, hW1⟩ : ∃ W1, W1 = ((w.alloc (.cells #[.string s] 9)).alloc (.cells #[.slice none 0 0] 38)).alloc (.cells #[.int .i64 0] 3) := ⟨_, rfl⟩
  have z1 : W1.heap.size = w.heap.size + 1 + 1 + 1 := by rw [hW1]; simp
  have k0 : W1.heap[w.heap.size]? = some (.cells #[.string s] 9 (0, 0)) := by rw [hW1]; exact block_old (block_old (block_new _ _) _) _
  have k1 : W1.heap[w.heap.size + 1]? = some (.cells #[.slice none 0 0] 38 (0, 0)) := by
    rw [hW1]
    have h := block_new (w.alloc (.cells #[.string s] 9)) (.cells #[.slice none 0 0] 38)
    rw [World.size_alloc] at h
    exact block_old h _
  have k2 : W1.heap[w.heap.size + 2]? = some (.cells #[.int .i64 0] 3 (0, 0)) := by
    rw [hW1]
    have h := block_new ((w.alloc (.cells #[.string s] 9)).alloc (.cells #[.slice none 0 0] 38)) (.cells #[.int .i64 0] 3)
    rw [World.size_alloc, World.size_alloc] at h
    exact h
  have kb : Below w.heap.size w W1 := by
    rw [hW1]
    exact (((Below.refl _ w).alloc (Nat.le_refl _) _).alloc (by simp) _).alloc (by simp; omega) _
  rw [← hW1]
  obtain ⟨q1, q2, q3⟩ := HCP.out W1
  rw [z1] at q2 q3
  obtain ⟨W0, hW0⟩ : ∃ W0, W0 = cw W1 := ⟨_, rfl⟩
  rw [← hW0] at q1 q2 q3 ⊢
  have j0 : Hid (WInv w.heap.size s (wst s 0).1 (wst s 0).2 W0 ∧ (∀ i, i < s.size → W0.cell? ⟨w.heap.size + 1 + 1 + 1, i, none⟩ = some (.int .u8 ((sb s).getD i 0))) ∧ Below w.heap.size w W0 ∧ w.heap.size + 3 < W0.heap.size) :=
    ⟨⟨block_kept k0 q1, block_kept k2 q1, _, block_kept k1 q1, World.ownsRow_nil _ _ _ _⟩, q3, kb.trans (q1.mono kb.size), q2⟩
  clear hW1 hW0 q1 q2 q3 k0 k1 k2 kb hcv HCP
  go_loopg [12] s.size (fun (gh : Nat) si wx => ∃ k : Nat, gh = s.size - k ∧ k ≤ s.size ∧ si = .int .i64 (k : Int) ∧
      Hid (WInv w.heap.size s (wst s k).1 (wst s k).2 wx ∧ (∀ i, i < s.size → wx.cell? ⟨w.heap.size + 1 + 1 + 1, i, none⟩ = some (.int .u8 ((sb s).getD i 0))) ∧ Below w.heap.size w wx ∧ w.heap.size + 3 < wx.heap.size))
  case atStart => exact ⟨0, rfl, Nat.zero_le _, rfl, j0.out⟩
  case round =>
    obtain ⟨k, rfl, hk, rfl, hinv⟩ := hrel
    have hwl := wst_le s k
    obtain ⟨p, hp⟩ : ∃ p, p = (wst s k).1 := ⟨_, rfl⟩
    obtain ⟨ws, hws⟩ : ∃ ws, ws = (wst s k).2 := ⟨_, rfl⟩
    rw [← hp, ← hws] at hinv hwl
    obtain ⟨wl1, wl2⟩ := hwl
    have HP := Lib.hid hp
    have HW := Lib.hid hws
    clear hp hws
    by_cases hlt : k < s.size
    · obtain ⟨d, hd⟩ : ∃ d, d = (sb s).getD k 0 := ⟨_, rfl⟩
      have hc := hinv.out.2.1 k hlt
      rw [← hd] at hc
      have HD := Lib.hid hd
      clear hd
      have cc := cut_any wr w.heap.size s p k ws hinv.out.1 hinv.out.2.2.2 hk hs (by omega) (by omega)
      have CC := Lib.hid cc
      clear cc
      have hsp : Hid (sepB d = true → wst s (k + 1) = (k + 1, cutW s p k ws)) := fun e => by
        rw [wst_sep (by rw [← HD.out]; exact e), HP.out, HW.out]
      have hin2 : Hid (sepB d = false → wst s (k + 1) = (p, ws)) := fun e => by
        rw [wst_in (by rw [← HD.out]; exact e), HP.out, HW.out]
      have aft : Hid (∀ W, WInv w.heap.size s (k + 1) (cutW s p k ws) W → W.heap[w.heap.size + 3]? = wr.heap[w.heap.size + 3]? → Below w.heap.size wr W → sepB d = true →
          WInv w.heap.size s (wst s (k + 1)).1 (wst s (k + 1)).2 W ∧ (∀ i, i < s.size → W.cell? ⟨w.heap.size + 1 + 1 + 1, i, none⟩ = some (.int .u8 ((sb s).getD i 0))) ∧ Below w.heap.size w W ∧ w.heap.size + 3 < W.heap.size) := by
        intro W i1 i2 i3 e
        refine ⟨by rw [hsp.out e]; exact i1, fun i hi => (World.cell?_of_block i2).trans (hinv.out.2.1 i hi), hinv.out.2.2.1.trans i3, Nat.lt_of_lt_of_le hinv.out.2.2.2 i3.size⟩
      have sty : Hid (sepB d = false → WInv w.heap.size s (wst s (k + 1)).1 (wst s (k + 1)).2 wr ∧ (∀ i, i < s.size → wr.cell? ⟨w.heap.size + 1 + 1 + 1, i, none⟩ = some (.int .u8 ((sb s).getD i 0))) ∧ Below w.heap.size w wr ∧ w.heap.size + 3 < wr.heap.size) :=
        fun e => by rw [hin2.out e]; exact hinv.out
      by_cases e32 : d = 32
      · have b1 : (d == 32) = true := by simpa using e32
        have hs1 : Hid (sepB d = true) := by show _ = _; unfold sepB; rw [b1]; rfl
        clear e32 hinv
        go_wp2_with (go_at_call 29; refine CC.out.mono ?_; rintro e w2 ⟨rfl, i1, i2, i3⟩)
        go_roundg (s.size - (k + 1))
        case measure => omega
        case rel => exact ⟨k + 1, rfl, by omega, by go_num, aft.out _ i1 i2 i3 hs1.out⟩
      · have b1 : (d == 32) = false := by simpa using e32
        by_cases e10 : d = 10
        · have b2 : (d == 10) = true := by simpa using e10
          have hs1 : Hid (sepB d = true) := by show _ = _; unfold sepB; rw [b2]; simp
          clear e32 e10 hinv
          go_wp2_with (go_at_call 29; refine CC.out.mono ?_; rintro e w2 ⟨rfl, i1, i2, i3⟩)
          go_roundg (s.size - (k + 1))
          case measure => omega
          case rel => exact ⟨k + 1, rfl, by omega, by go_num, aft.out _ i1 i2 i3 hs1.out⟩
        · have b2 : (d == 10) = false := by simpa using e10
          have hs1 : Hid (sepB d = false) := by show _ = _; unfold sepB; rw [b1, b2]; rfl
          clear e32 e10 hinv
          go_wp2
          go_roundg (s.size - (k + 1))
          case measure => omega
          case rel => exact ⟨k + 1, rfl, by omega, by go_num, sty.out hs1.out⟩
    · obtain rfl : k = s.size := by omega
      have cc := cut_any wr w.heap.size s p s.size ws hinv.out.1 hinv.out.2.2.2 hk hs (by omega) (by omega)
      have CC := Lib.hid cc
      have c0 := (block_cell hinv.out.1.1).1
      have HB := Lib.hid hinv.out.2.2.1
      have hwd : Hid (wordsOf s = cutW s p s.size ws) := by show _ = _; rw [HP.out, HW.out]; rfl
      clear cc hinv
      go_wp2_with (go_at_call 29; refine CC.out.mono ?_; rintro e w2 ⟨rfl, ⟨i1, i1b, v, i1c, i1d⟩, i2, i3⟩; have c9 := (block_cell i1c).1)
      go_ret
      exact ⟨v, rfl, by rw [hwd.out]; exact i1d, HB.out.trans i3⟩
end Go.Proofs.Ytcidbmkmnlneiaa.Id
