/-
  The contract of the reference's Words. Conditions: a text of at most 500 bytes.
-/
import Derived.Test.YtcidbmkmnlneiaaIWords
namespace Go.Proofs.Ytcidbmkmnlneiaa.Id
open Go.RowKit

theorem sb_mid (s : ByteArray) (a b : Nat) : sb (s.extract a b) = ((sb s).drop a).take (b - a) := by
  unfold sb
  rw [ByteArray.data_extract, ← List.map_drop, ← List.map_take]
  congr 1
  simp [Array.toList_extract, List.extract_eq_take_drop]
theorem ext_self (s : ByteArray) (a : Nat) : s.extract a a = ByteArray.empty := sb_inj (by rw [sb_mid, Nat.sub_self, List.take_zero]; rfl)
theorem ext_size (s : ByteArray) (a b : Nat) (h : a ≤ b) (h2 : b ≤ s.size) : (s.extract a b).size = b - a := by
  rw [← sb_len, sb_mid, List.length_take, List.length_drop, sb_len]
  omega
theorem ext_snoc (s : ByteArray) (a k : Nat) (h : a ≤ k) : s.extract a k ++ s.extract k (k + 1) = s.extract a (k + 1) := by
  refine sb_inj ?_
  rw [sb_add, sb_mid, sb_mid, sb_mid, show k + 1 - a = (k - a) + 1 by omega, show k + 1 - k = 1 by omega, List.take_add, List.drop_drop, show a + (k - a) = k by omega]

set_option maxRecDepth 100000 in
set_option maxHeartbeats 4000000 in
theorem refWords_any (w : World) (s : ByteArray) (hs : s.size ≤ 500) :
    Calls Try.prog 22 #[.string s] w fun e w' => ∃ v, e = .returned v ∧ w'.ownsRow w.heap.size 9 1 v (wordsOf s).length (strV (wordsOf s)) ∧ Below w.heap.size w w' := by
  obtain ⟨i0, hi0, hz0, hz1, hz2⟩ := info_parts strInf
  go_enter Try.func22, Try.ntmps22
  go_wp2_with fail
  go_loopg [3, 4, 5] (s.size + 1) (fun (gh : Nat) sv st si wx => ∃ (k : Nat) (t : ByteArray) (ws : List ByteArray), gh = s.size + 1 - k ∧ k ≤ s.size + 1 ∧ si = .int .i64 (k : Int) ∧ st = .string t ∧
      Hid (((k ≤ s.size → t = s.extract (wst s k).1 k ∧ ws = (wst s k).2) ∧ (k = s.size + 1 → ws = wordsOf s)) ∧ wx.ownsRow w.heap.size 9 1 sv ws.length (strV ws) ∧ Below w.heap.size w wx))
  case atStart => exact ⟨0, ByteArray.empty, [], rfl, Nat.zero_le _, rfl, rfl, ⟨fun _ => ⟨(ext_self s 0).symm, rfl⟩, fun h => by omega⟩, World.ownsRow_nil _ _ _ _, Below.refl _ _⟩
  case round =>
    obtain ⟨k, t, ws, rfl, hk, rfl, rfl, hinv⟩ := hrel
    have hrow := hinv.out.2.1
    have hbw := hinv.out.2.2
    have hsw := hbw.size
    have HBW := Lib.hid hbw
    clear hbw
    by_cases hend : k = s.size + 1
    · have hws := hinv.out.1.2 hend
      subst hws
      have h1 : s.size + 1 ≤ k := by omega
      clear hinv hend
      go_wp2
      go_ret
      exact ⟨_, rfl, hrow, HBW.out⟩
    · have hk2 : k ≤ s.size := by omega
      obtain ⟨e1, e2⟩ := hinv.out.1.1 hk2
      have hwl := wst_le s k
      obtain ⟨p, hp⟩ : ∃ p, p = (wst s k).1 := ⟨_, rfl⟩
      rw [← hp] at e1 hwl
      rw [← e2] at hwl
      obtain ⟨wl1, wl2⟩ := hwl
      have hts : t.size = k - p := by rw [e1]; exact ext_size s p k wl1 hk2
      have ht1 : t.size ≤ 500 := by omega
      have HP := Lib.hid hp
      have HE1 := Lib.hid e1
      have HE2 := Lib.hid e2
      clear hinv hp e1 e2 hend
      -- what a parting byte, or the text's end, leaves
      have fin : Hid (∀ ws', ws' = cutW s p k ws → (k < s.size → sepB ((sb s).getD k 0) = true) → (k + 1 ≤ s.size → ByteArray.empty = s.extract (wst s (k + 1)).1 (k + 1) ∧ ws' = (wst s (k + 1)).2) ∧ (k + 1 = s.size + 1 → ws' = wordsOf s)) := by
        rintro ws' rfl hsep
        refine ⟨fun h => ?_, fun h => ?_⟩
        · rw [wst_sep (hsep (by omega)), ← HP.out, ← HE2.out]
          exact ⟨(ext_self s (k + 1)).symm, rfl⟩
        · have : k = s.size := by omega
          rw [HP.out, HE2.out, this]
          rfl
      have go1 : Hid (p < k → cutW s p k ws = ws ++ [t]) := fun h => by
        unfold cutW
        rw [if_pos h, HE1.out]
      have go0 : Hid (¬ p < k → cutW s p k ws = ws) := fun h => by
        unfold cutW
        rw [if_neg h]
      by_cases hks : k = s.size
      · have HSEP : Hid (k < s.size → sepB ((sb s).getD k 0) = true) := fun h => by omega
        have b1 : (k == s.size) = true := by simpa using hks
        have b2 : ((k : Int) == (s.size : Int)) = true := by simp; omega
        clear hks
        by_cases hpk : p < k
        · have ht0 : 0 < t.size := by omega
          have hcw := Lib.hid (go1.out hpk)
          clear hpk hts
          go_wp2_with (at_builtin; refine wpList_append_own _ rfl _ _ 38 rfl w.heap.size 9 i0 (.string ByteArray.empty) 1 16 Try.underlying38 hi0 hz0 hz1 hz2 rfl (by decide) _ _ _ rfl (hrow.alloc _) ⟨wr.heap.size, 0, none⟩ 1 1 [.string t] rfl rfl (cell_one_new _ _ _) (by simp [Value.oneCell']) (by unfold maxLen; omega) (by omega) (by simp; omega) ?_; intro v' w2 hown' hgrow hnil)
          have hb2 : Below w.heap.size w w2 := (HBW.out.alloc hsw _).grown hgrow (by simp; omega) (fun j hj => (hrow.lt j hj).1)
          go_roundg (s.size + 1 - (k + 1))
          case measure => omega
          case rel => exact ⟨k + 1, ByteArray.empty, ws ++ [t], rfl, by omega, by go_num, rfl, fin.out _ hcw.out.symm HSEP.out, by rw [List.length_append]; simpa [strV] using hown', hb2⟩
        · have ht0 : t.size ≤ 0 := by omega
          have hcw := Lib.hid (go0.out hpk)
          clear hpk hts
          go_wp2
          go_roundg (s.size + 1 - (k + 1))
          case measure => omega
          case rel => exact ⟨k + 1, ByteArray.empty, ws, rfl, by omega, by go_num, rfl, fin.out _ hcw.out.symm HSEP.out, hrow, HBW.out⟩
      · have hlt : k < s.size := by omega
        have b1 : (k == s.size) = false := by simpa using hks
        have b2 : ((k : Int) == (s.size : Int)) = false := by simp; omega
        have hget := sb_get s k hlt
        obtain ⟨d, hd⟩ : ∃ d, d = (sb s).getD k 0 := ⟨_, rfl⟩
        rw [← hd] at hget
        have HD := Lib.hid hd
        clear hd hks
        by_cases e32 : d = 32
        · have b3 : (d == 32) = true := by simpa using e32
          have HSEP : Hid (k < s.size → sepB ((sb s).getD k 0) = true) := fun _ => by rw [← HD.out]; unfold sepB; rw [b3]; rfl
          clear e32
          by_cases hpk : p < k
          · have ht0 : 0 < t.size := by omega
            have hcw := Lib.hid (go1.out hpk)
            clear hpk hts
            go_wp2_with (at_builtin; refine wpList_append_own _ rfl _ _ 38 rfl w.heap.size 9 i0 (.string ByteArray.empty) 1 16 Try.underlying38 hi0 hz0 hz1 hz2 rfl (by decide) _ _ _ rfl (hrow.alloc _) ⟨wr.heap.size, 0, none⟩ 1 1 [.string t] rfl rfl (cell_one_new _ _ _) (by simp [Value.oneCell']) (by unfold maxLen; omega) (by omega) (by simp; omega) ?_; intro v' w2 hown' hgrow hnil)
            have hb2 : Below w.heap.size w w2 := (HBW.out.alloc hsw _).grown hgrow (by simp; omega) (fun j hj => (hrow.lt j hj).1)
            go_roundg (s.size + 1 - (k + 1))
            case measure => omega
            case rel => exact ⟨k + 1, ByteArray.empty, ws ++ [t], rfl, by omega, by go_num, rfl, fin.out _ hcw.out.symm HSEP.out, by rw [List.length_append]; simpa [strV] using hown', hb2⟩
          · have ht0 : t.size ≤ 0 := by omega
            have hcw := Lib.hid (go0.out hpk)
            clear hpk hts
            go_wp2
            go_roundg (s.size + 1 - (k + 1))
            case measure => omega
            case rel => exact ⟨k + 1, ByteArray.empty, ws, rfl, by omega, by go_num, rfl, fin.out _ hcw.out.symm HSEP.out, hrow, HBW.out⟩
        · have b3 : (d == 32) = false := by simpa using e32
          by_cases e10 : d = 10
          · have b4 : (d == 10) = true := by simpa using e10
            have HSEP : Hid (k < s.size → sepB ((sb s).getD k 0) = true) := fun _ => by rw [← HD.out]; unfold sepB; rw [b4]; simp
            clear e32 e10
            by_cases hpk : p < k
            · have ht0 : 0 < t.size := by omega
              have hcw := Lib.hid (go1.out hpk)
              clear hpk hts
              go_wp2_with (at_builtin; refine wpList_append_own _ rfl _ _ 38 rfl w.heap.size 9 i0 (.string ByteArray.empty) 1 16 Try.underlying38 hi0 hz0 hz1 hz2 rfl (by decide) _ _ _ rfl (hrow.alloc _) ⟨wr.heap.size, 0, none⟩ 1 1 [.string t] rfl rfl (cell_one_new _ _ _) (by simp [Value.oneCell']) (by unfold maxLen; omega) (by omega) (by simp; omega) ?_; intro v' w2 hown' hgrow hnil)
              have hb2 : Below w.heap.size w w2 := (HBW.out.alloc hsw _).grown hgrow (by simp; omega) (fun j hj => (hrow.lt j hj).1)
              go_roundg (s.size + 1 - (k + 1))
              case measure => omega
              case rel => exact ⟨k + 1, ByteArray.empty, ws ++ [t], rfl, by omega, by go_num, rfl, fin.out _ hcw.out.symm HSEP.out, by rw [List.length_append]; simpa [strV] using hown', hb2⟩
            · have ht0 : t.size ≤ 0 := by omega
              have hcw := Lib.hid (go0.out hpk)
              clear hpk hts
              go_wp2
              go_roundg (s.size + 1 - (k + 1))
              case measure => omega
              case rel => exact ⟨k + 1, ByteArray.empty, ws, rfl, by omega, by go_num, rfl, fin.out _ hcw.out.symm HSEP.out, hrow, HBW.out⟩
          · have b4 : (d == 10) = false := by simpa using e10
            have hnext : Hid ((k + 1 ≤ s.size → t ++ s.extract k (k + 1) = s.extract (wst s (k + 1)).1 (k + 1) ∧ ws = (wst s (k + 1)).2) ∧ (k + 1 = s.size + 1 → ws = wordsOf s)) := by
              refine ⟨fun _ => ?_, fun h => by omega⟩
              rw [wst_in (by rw [← HD.out]; unfold sepB; rw [b3, b4]; rfl), ← HP.out, ← HE2.out, HE1.out, ext_snoc s p k wl1]
              exact ⟨rfl, rfl⟩
            have hsl : ∀ W, (Instr.slice 9 (.string s) (some (.int .i64 (k : Int))) (some (.int .i64 ((k : Int) + 1))) none).run Try.prog W = .ok (.string (s.extract k (k + 1))) W := fun W => by
              have h := slice_mid s k (k + 1) (by omega) (by omega) W
              rwa [show ((k + 1 : Nat) : Int) = (k : Int) + 1 by omega] at h
            obtain ⟨u, hu⟩ : ∃ u, u = s.extract k (k + 1) := ⟨_, rfl⟩
            have hus : u.size ≤ 1 := by rw [hu, ext_size s k (k + 1) (by omega) (by omega)]; omega
            rw [← hu] at hsl hnext
            have hno : ¬ 9223372036854775807 < t.size + u.size := by omega
            clear e32 e10 hu hts
            go_wp2
            go_roundg (s.size + 1 - (k + 1))
            case measure => omega
            case rel => exact ⟨k + 1, t ++ u, ws, rfl, by omega, by go_num, rfl, hnext.out, hrow, HBW.out⟩
end Go.Proofs.Ytcidbmkmnlneiaa.Id
