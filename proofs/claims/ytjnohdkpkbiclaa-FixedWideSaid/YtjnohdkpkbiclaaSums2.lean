/-
  The contract of the program's Sum of 64 bits. Conditions: the list has at most 1000 numbers.
-/
import Derived.Test.YtjnohdkpkbiclaaSums
import Derived.Deep.LoopGhost
namespace Go.Proofs.Ytjnohdkpkbiclaa
open Go.RowKit

set_option maxRecDepth 100000 in
set_option maxHeartbeats 2000000 in
theorem fsum_any (w : World) (A : Option Addr) (n c : Nat) (zs : List Int) (h : Ints w A n zs) (hn : n ≤ 1000) :
    Calls Try.prog 12 #[.slice A n c] w fun e w' => ∃ m er, e = .returned (.tuple #[.int .i64 m, .int .i64 er]) ∧ Hid (NSpec (tot zs) m er) ∧ Below w.heap.size w w' := by
  have H := Lib.hid h
  have TB := Lib.hid (tot_bound h hn)
  clear h
  go_enter Try.func12, Try.ntmps12
  go_wp2
  obtain ⟨W0, hW0⟩ : ∃ W0, W0 = w.alloc (.cells #[.int .i64 0, .int .u64 0] 38) := ⟨_, rfl⟩
  have j := one_new w (.cells #[.int .i64 0, .int .u64 0] 38)
  rw [← hW0] at j ⊢
  have J := Lib.hid j
  clear hW0 j
  go_loopg [10] n (fun (g : Nat) si wx => ∃ (k : Nat) (p q : Int), g = n - k ∧ k ≤ n ∧ si = .int .i64 (k : Int) ∧
    Hid (wx.heap[w.heap.size]? = some (.cells #[.int .i64 p, .int .u64 q] 38 (0, 0)) ∧ WOk p q ∧ Hid (tot (zs.take k) = wv p q) ∧ Below w.heap.size w wx))
  case atStart => exact ⟨0, 0, 0, rfl, Nat.zero_le _, rfl, J.out.1, ⟨by decide, by decide, by decide, by decide⟩, rfl, J.out.2⟩
  case round =>
    obtain ⟨k, p, q, rfl, hk, rfl, hinv⟩ := hrel
    obtain ⟨t0, t1, tf0, tf1⟩ := blk2 hinv.out.1
    by_cases hlt : k < n
    · obtain ⟨b, o, rfl, hbl, hcs⟩ := H.out.2.2 (by omega)
      obtain ⟨z, hz⟩ : ∃ z, z = zs.getD k 0 := ⟨_, rfl⟩
      obtain ⟨s, hs⟩ : ∃ s, s = tot (zs.take k) := ⟨_, rfl⟩
      obtain ⟨s', hs'⟩ : ∃ s', s' = s + z := ⟨_, rfl⟩
      have hcz : wr.cell? ⟨b, o + k, none⟩ = some (.int .i64 z) := by rw [hz]; exact (hinv.out.2.2.2.cell (p := ⟨b, o + k, none⟩) hbl).trans (hcs k hlt)
      have HT : Hid (s' = tot (zs.take (k + 1))) := by show _ = _; rw [hs', hs, hz, tot_take_succ _ _ (by rw [H.out.1]; exact hlt)]
      have HR : Hid (In128 s') := by
        have := TB.out (k + 1) (by omega)
        show In128 s'
        rw [HT.out]
        constructor <;> (push_cast at this; omega)
      have HZ : Hid (-9223372036854775808 ≤ z ∧ z ≤ 9223372036854775807) := by show _ ∧ _; rw [hz]; exact H.out.2.1 k
      have HS : Hid (s = wv p q) := by show _ = _; rw [hs]; exact hinv.out.2.2.1.out
      have HS' := Lib.hid hs'
      have BW : Hid (Below w.heap.size w wr.drew) := hinv.out.2.2.2.drew
      have KB : Hid (wr.drew.heap[w.heap.size]? = some (.cells #[.int .i64 p, .int .u64 q] 38 (0, 0))) := hinv.out.1
      have KP := Lib.hid hinv.out.2.1
      clear hz hs hs' hcs hinv
      go_upto_region 5 with fail
      go_region_with (first
        | (go_at_call 25; (with_reducible refine (of_is wr.drew z HZ.out.1 HZ.out.2).mono ?_); rintro e w1 ⟨h1, l1, rfl, K1, b1⟩; have KB1 := Lib.hid (block_kept KB.out b1); obtain ⟨m0, m1, _, _⟩ := blk2 KB1.out; have BW1 := Lib.hid (BW.out.trans (b1.mono BW.out.size)); clear b1)
        | (go_at_call 36; (with_reducible refine (join_is w1 p q h1 l1 KP.out K1.out.1 HS K1.out.2 HS' HR).mono ?_); rintro e w2 ⟨h2, l2, rfl, K2, b2⟩; have KB2 := Lib.hid (block_kept KB1.out b2); obtain ⟨_, _, mf0, mf1⟩ := blk2 KB2.out; have BW2 := Lib.hid (BW1.out.trans (b2.mono BW1.out.size)); clear b2))
      all_goals
        go_wp2
        go_roundg (n - (k + 1))
        case measure => omega
        case rel => exact ⟨k + 1, h2, l2, rfl, by omega, by go_num, blk_store2 KB2.out _ _, K2.out.1, by rw [← HT.out]; exact K2.out.2, below_stored BW2.out (Nat.le_refl _) _ _⟩
    · have hkn : k = n := by omega
      have HS : Hid (tot zs = wv p q) := by
        have := hinv.out.2.2.1.out
        rwa [List.take_of_length_le (by rw [H.out.1]; omega)] at this
      have BW := Lib.hid hinv.out.2.2.2
      have KP := Lib.hid hinv.out.2.1
      clear hinv
      go_wp2_with (go_at_call 23; (with_reducible refine (int_is _ p q KP.out HS).mono ?_); rintro e w4 ⟨n4, er4, rfl, K4, b4⟩; have B4 := Lib.hid (BW.out.trans (b4.mono BW.out.size)); clear b4)
      go_ret2
      exact ⟨_, _, rfl, K4, B4.out⟩
end Go.Proofs.Ytjnohdkpkbiclaa
