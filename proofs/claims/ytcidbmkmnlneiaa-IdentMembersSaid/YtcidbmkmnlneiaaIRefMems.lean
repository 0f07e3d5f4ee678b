/-
  The contract of the reference's Members. Conditions: at most 30 names of at most 20 bytes, in a row of memory of their own.
-/
import Derived.Test.YtcidbmkmnlneiaaIMembers
namespace Go.Proofs.Ytcidbmkmnlneiaa.Id
open Go.RowKit

theorem mem_take {ss : List ByteArray} {m j : Nat} (hm : m < j) (hj : j < ss.length) : ss.getD m ByteArray.empty ∈ ss.take j := by
  rw [List.getD_eq_getElem?_getD, List.getElem?_eq_getElem (by omega), Option.getD_some]
  rw [List.mem_take_iff_getElem]
  exact ⟨m, by omega, rfl⟩
theorem not_mem_take {ss : List ByteArray} {j : Nat} (hj : j < ss.length) {t : ByteArray} (h : ∀ x, x < j → ss.getD x ByteArray.empty ≠ t) : t ∉ ss.take j := by
  intro hm
  rw [List.mem_take_iff_getElem] at hm
  obtain ⟨i, hi, e⟩ := hm
  refine h i (by omega) ?_
  rw [List.getD_eq_getElem?_getD, List.getElem?_eq_getElem (by omega), Option.getD_some]
  exact e
theorem toList_eq_yes {s t : ByteArray} (h : s = t) : (s.toList == t.toList) = true := by rw [h]; simp
theorem toList_eq_no {s t : ByteArray} (h : s ≠ t) : (s.toList == t.toList) = false := by
  cases hh : s.toList == t.toList
  · rfl
  · exfalso
    have h2 : s.toList = t.toList := by simpa using hh
    rw [ByteArray.toList_eq, ByteArray.toList_eq] at h2
    exact h (str_inj h2)

set_option maxRecDepth 100000 in
set_option maxHeartbeats 2000000 in
theorem refMembers_some (w : World) (g c : Nat) (ss : List ByteArray) (hn : 0 < ss.length) (hl : ss.length ≤ 30) (hg : g < w.heap.size) (hc : StrRow w g ss) (hsz : ∀ s ∈ ss, s.size ≤ 20) :
    Calls Try.prog 20 #[.slice (some ⟨g, 0, none⟩) ss.length c] w fun e w' => e = .returned (.int .i64 (memsN ss)) ∧ Below w.heap.size w w' := by
  obtain ⟨n, hnn⟩ : ∃ n, n = ss.length := ⟨_, rfl⟩
  rw [← hnn] at hn hl ⊢
  have HN := Lib.hid hnn
  have HC := Lib.hid hc
  have HSZ := Lib.hid hsz
  clear hnn hc hsz
  go_enter Try.func20, Try.ntmps20
  go_wp2_with fail
  go_loopg [3] n (fun (gh : Nat) si wx => w = wx ∧ ∃ k : Nat, gh = n - k ∧ k ≤ n ∧ si = .int .i64 (k : Int) ∧ Hid (∀ i, i < k → memB (sb (ss.getD i ByteArray.empty)) = true))
  case atStart => exact ⟨rfl, 0, rfl, Nat.zero_le _, rfl, fun i hi => by omega⟩
  case round =>
    obtain ⟨rfl, k, rfl, hk, rfl, hinv⟩ := hrel
    by_cases hlt : k < n
    · obtain ⟨s, hs⟩ : ∃ s, s = ss.getD k ByteArray.empty := ⟨_, rfl⟩
      have hcx := HC.out k (by rw [← HN.out]; exact hlt)
      rw [← hs] at hcx
      have hss : s.size ≤ 20 := by
        rw [hs, List.getD_eq_getElem?_getD, List.getElem?_eq_getElem (by rw [← HN.out]; exact hlt)]
        exact HSZ.out _ (List.getElem_mem _)
      obtain ⟨b, hb⟩ : ∃ b, b = memB (sb s) := ⟨_, rfl⟩
      have HS := Lib.hid hs
      have HB := Lib.hid hb
      have cm := fun W => refMember_any W s (by omega)
      clear hs hb
      cases b
      · have hres : Hid (memsN ss = 3) := mems_bad (k := k) (by rw [← HN.out]; exact hlt) (by rw [← HS.out]; exact HB.out.symm)
        rw [memE_no HB.out.symm] at cm
        have CM := Lib.hid cm
        clear cm
        go_wp2_with (go_at_call 18; refine (CM.out _).mono ?_; rintro e w2 ⟨rfl, rfl⟩)
        go_ret
        exact ⟨ret_int hres.out.symm, Below.refl _ _⟩
      · rw [memE_yes HB.out.symm] at cm
        have CM := Lib.hid cm
        have hnx : Hid (∀ i, i < k + 1 → memB (sb (ss.getD i ByteArray.empty)) = true) := fun i hi => by
          rcases Nat.lt_or_ge i k with h | h
          · exact hinv.out i h
          · have : i = k := by omega
            subst this
            rw [← HS.out]; exact HB.out.symm
        clear cm
        go_wp2_with (go_at_call 18; refine (CM.out _).mono ?_; rintro e w2 ⟨rfl, rfl⟩)
        go_roundg (n - (k + 1))
        case measure => omega
        case rel => exact ⟨rfl, k + 1, rfl, by omega, by go_num, hnx.out⟩
    · obtain rfl : k = n := by omega
      have hall : Hid (∀ i, i < ss.length → memB (sb (ss.getD i ByteArray.empty)) = true) := fun i hi => hinv.out i (by rw [HN.out]; exact hi)
      clear hinv
      go_wp2_with fail
      go_loopg [4] k (fun (gh : Nat) si wx => ∃ j : Nat, gh = k - j ∧ j ≤ k ∧ si = .int .i64 (j : Int) ∧ Hid ((ss.take j).Nodup ∧ Below w.heap.size w wx))
      case atStart => exact ⟨0, rfl, Nat.zero_le _, rfl, by simp, Below.refl _ _⟩
      case round =>
        obtain ⟨j, rfl, hj, rfl, hinv⟩ := hrel
        obtain ⟨wo, rfl⟩ : ∃ wo : World, wo = wr := ⟨_, rfl⟩
        by_cases hlt2 : j < k
        · have hjs : j < ss.length := by rw [← HN.out]; exact hlt2
          obtain ⟨s, hs⟩ : ∃ s, s = ss.getD j ByteArray.empty := ⟨_, rfl⟩
          have HS := Lib.hid hs
          clear hs
          go_wp2_with fail
          go_loopg [5] j (fun (gh : Nat) si wx => ∃ m : Nat, gh = j - m ∧ m ≤ j ∧ si = .int .i64 (m : Int) ∧ Hid ((∀ x, x < m → ss.getD x ByteArray.empty ≠ s) ∧ Below w.heap.size w wx))
          case atStart => exact ⟨0, rfl, Nat.zero_le _, rfl, fun x hx => by omega, hinv.out.2⟩
          case round =>
            obtain ⟨m, rfl, hm, rfl, hin2⟩ := hrel
            by_cases hlt3 : m < j
            · obtain ⟨t, ht⟩ : ∃ t, t = ss.getD m ByteArray.empty := ⟨_, rfl⟩
              have hc1 := (HC.out.below hin2.out.2 hg) j hjs
              have hc2 := (HC.out.below hin2.out.2 hg) m (by omega)
              rw [← HS.out] at hc1
              rw [← ht] at hc2
              have HT := Lib.hid ht
              have hbw := Lib.hid hin2.out.2
              clear ht
              by_cases he : t = s
              · have hcmp := toList_eq_yes he
                have hres : Hid (memsN ss = 6) := mems_dup hall.out (dup_of_mem hjs (by rw [← HS.out, ← he, HT.out]; exact mem_take hlt3 hjs))
                clear he hin2
                go_wp2_with fail
                go_quiet (fail)
                go_wp2
                go_ret
                exact ⟨ret_int hres.out.symm, below_drewN hbw.out _⟩
              · have hcmp := toList_eq_no he
                have hnx : Hid (∀ x, x < m + 1 → ss.getD x ByteArray.empty ≠ s) := fun x hx => by
                  rcases Nat.lt_or_ge x m with h | h
                  · exact hin2.out.1 x h
                  · have : x = m := by omega
                    subst this
                    rw [← HT.out]; exact he
                clear he hin2
                go_wp2_with fail
                go_quiet (fail)
                go_wp2
                go_roundg (j - (m + 1))
                case measure => omega
                case rel => exact ⟨m + 1, rfl, by omega, by go_num, hnx.out, below_drewN hbw.out _⟩
            · obtain rfl : m = j := by omega
              have hnd : Hid ((ss.take (m + 1)).Nodup) := take_nodup_succ hjs hinv.out.1 (by rw [← HS.out]; exact not_mem_take hjs hin2.out.1)
              go_wp2
              go_roundg (k - (m + 1))
              case measure => omega
              case rel => exact ⟨m + 1, rfl, by omega, by go_num, hnd.out, hin2.out.2⟩
        · obtain rfl : j = k := by omega
          have hres : Hid (memsN ss = 0) := mems_ok hall.out (by have := hinv.out.1; rwa [List.take_of_length_le (by rw [← HN.out]; exact Nat.le_refl _)] at this)
          have hb := Lib.hid hinv.out.2
          clear hinv
          go_wp2
          go_ret
          exact ⟨ret_int hres.out.symm, hb.out⟩

set_option maxRecDepth 100000 in
theorem refMembers_none (w : World) : Calls Try.prog 20 #[.slice none 0 0] w fun e w' => e = .returned (.int .i64 0) ∧ Below w.heap.size w w' := by
  go_enter Try.func20, Try.ntmps20
  go_wp2
  refine wp_loop_rounds 1 ?_
  rw [rounds_succ]
  go_wp2
  refine wp_loop_rounds 1 ?_
  rw [rounds_succ]
  go_wp2
  go_ret
  exact ⟨rfl, Below.refl _ _⟩
end Go.Proofs.Ytcidbmkmnlneiaa.Id
