/-
  The contracts of fixed's plain and size.shift. Conditions: a string that fits memory; the types' own ranges.
-/
import Derived.Test.YtjnohdkpkbiclaaText
import Derived.Laws.IdiomStrings
namespace Go.Proofs.Ytjnohdkpkbiclaa
open Go.RowKit

/-- A string's bytes as numbers. -/
def sb (s : ByteArray) : List Int := s.data.toList.map fun b => (b.toNat : Int)
theorem sb_len (s : ByteArray) : (sb s).length = s.size := by simp [sb]
theorem sb_range (s : ByteArray) (k : Nat) : 0 ≤ (sb s).getD k 0 ∧ (sb s).getD k 0 ≤ 255 := by
  rw [List.getD_eq_getElem?_getD]
  rcases Nat.lt_or_ge k (sb s).length with h | h
  · rw [List.getElem?_eq_getElem h]
    simp only [sb, List.getElem_map, Option.getD_some]
    have := UInt8.toNat_lt (s.data.toList[k]'(by simpa [sb] using h))
    omega
  · rw [List.getElem?_eq_none h]; exact ⟨by decide, by decide⟩

theorem sb_toList (s : ByteArray) : sb s = s.toList.map fun b => (b.toNat : Int) := by rw [sb, ByteArray.toList_eq]
theorem sb_eq_48 (s : ByteArray) : s.toList = [48] ↔ sb s = [48] := by
  rw [sb_toList]
  constructor
  · intro h; rw [h]; rfl
  · intro h
    match hl : s.toList, h with
    | [a], h =>
      simp only [List.map_cons, List.map_nil, List.cons.injEq, and_true] at h
      have : a = 48 := UInt8.toNat_inj.1 (by have : a.toNat = 48 := by omega
                                             simpa using this)
      rw [this]
    | a :: b :: t, h => simp at h
theorem sb_head (s : ByteArray) (h : 0 < s.size) : (sb s).head? = some ((s[0]'h).toNat : Int) := by
  rw [sb, List.head?_map, List.head?_eq_getElem?, List.getElem?_eq_getElem (by simpa using h)]
  rfl

/-- Is it digits, without noughts ahead? -/
def plainB (bs : List Int) : Bool := bs.all (fun c => decide (48 ≤ c) && decide (c ≤ 57)) && (bs == [48] || (bs.head?.isSome && !(bs.head? == some 48)))

/-- A string's bytes laid in memory. -/
theorem str_bytes (s : ByteArray) : ∃ (cv : World → Nat) (cw : World → World), (∀ W, (convert 9 89 (.string s)).run Try.prog W = .ok (.slice (some ⟨W.heap.size, 0, none⟩) s.size (cv W)) (cw W)) ∧
    (∀ W, Below W.heap.size W (cw W) ∧ W.heap.size < (cw W).heap.size ∧ ∀ i, i < s.size → (cw W).cell? ⟨W.heap.size, i, none⟩ = some (.int .u8 ((sb s).getD i 0))) := by
  refine ⟨_, _, fun W => run_bytes_of_string (P := Try.prog) W 9 89 5 s Try.underlying9 Try.underlying89 Try.underlying5, fun W => ⟨((Below.refl _ _).drew).alloc (Nat.le_refl _) _, ?_, ?_⟩⟩
  · simp
  · intro i hi
    have h1 := heap_alloc_new W.drew (.cells (bytesRow s (grownCap W s.size 0 5)) 5 ((bytesRow s (grownCap W s.size 0 5)).size, (bytesRow s (grownCap W s.size 0 5)).size + 1))
    rw [cell_of_row _ W.heap.size i _ _ _ h1]
    have hi2 : i < s.data.size := hi
    simp only [bytesRow, sb, List.getD_eq_getElem?_getD, List.getElem?_map]
    rw [Array.getElem?_append_left (by simpa using hi2)]
    simp only [Array.getElem?_map, Array.getElem?_toList]
    rw [Array.getElem?_eq_getElem hi2]
    rfl

set_option maxRecDepth 100000 in
set_option maxHeartbeats 1000000 in
theorem plain_any (w : World) (s : ByteArray) (hs : s.size ≤ 1000) :
    Calls Try.prog 57 #[.string s] w fun e w' => e = .returned (.bool (plainB (sb s))) ∧ Below w.heap.size w w' := by
  obtain ⟨cv, cw, hcv, hcp⟩ := str_bytes s
  have HCP := Lib.hid (hcp w)
  clear hcp
  go_enter Try.func57, Try.ntmps57
  go_wp2
  obtain ⟨W0, hW0⟩ : ∃ W0, W0 = cw w := ⟨_, rfl⟩
  rw [← hW0] at HCP ⊢
  clear hW0 hcv
  go_loopg [8] s.size (fun (g : Nat) si wx => W0 = wx ∧ ∃ k : Nat, g = s.size - k ∧ k ≤ s.size ∧ si = .int .i64 (k : Int) ∧ Hid (∀ i, i < k → 48 ≤ (sb s).getD i 0 ∧ (sb s).getD i 0 ≤ 57))
  case atStart => exact ⟨rfl, 0, rfl, Nat.zero_le _, rfl, fun i hi => by omega⟩
  case round =>
    obtain ⟨rfl, k, rfl, hk, rfl, hall⟩ := hrel
    by_cases hlt : k < s.size
    · obtain ⟨d, hd⟩ : ∃ d, d = (sb s).getD k 0 := ⟨_, rfl⟩
      have hc := HCP.out.2.2 k hlt
      have hr := sb_range s k
      rw [← hd] at hc hr
      obtain ⟨r0, r1⟩ := hr
      have HD := Lib.hid hd
      clear hd
      have hbad : Hid ((d < 48 ∨ 57 < d) → plainB (sb s) = false) := by
        intro hb
        have hm : d ∈ sb s := by
          rw [HD.out, List.getD_eq_getElem?_getD, List.getElem?_eq_getElem (by rw [sb_len]; exact hlt)]
          exact List.getElem_mem _
        unfold plainB
        have : (sb s).all (fun c => decide (48 ≤ c) && decide (c ≤ 57)) = false := by
          rw [List.all_eq_false]
          exact ⟨d, hm, by simp; omega⟩
        rw [this]; rfl
      rcases (by omega : d < 48 ∨ (¬ d < 48 ∧ 57 < d) ∨ (¬ d < 48 ∧ ¬ 57 < d)) with h1 | ⟨h1, h2⟩ | ⟨h1, h2⟩
      · go_wp2
        go_ret
        exact ⟨ret_bool (hbad.out (.inl h1)).symm, HCP.out.1⟩
      · go_wp2
        go_ret
        exact ⟨ret_bool (hbad.out (.inr h2)).symm, HCP.out.1⟩
      · go_wp2
        go_roundg (s.size - (k + 1))
        case measure => omega
        case rel => exact ⟨rfl, k + 1, rfl, by omega, by go_num, fun i hi => by
          rcases Nat.lt_or_ge i k with h | h
          · exact hall.out i h
          · have : i = k := by omega
            subst this
            rw [← HD.out]; omega⟩
    · have hks : k = s.size := by omega
      have hgood : Hid ((sb s).all (fun c => decide (48 ≤ c) && decide (c ≤ 57)) = true) := by
        show _ = _
        rw [List.all_eq_true]
        intro c hc
        obtain ⟨i, hi, rfl⟩ := List.getElem_of_mem hc
        have h := hall.out i (by rw [hks, ← sb_len]; exact hi)
        rw [List.getD_eq_getElem?_getD, List.getElem?_eq_getElem hi] at h
        simpa using h
      by_cases h48 : s.toList = [48]
      · have hres : Hid (plainB (sb s) = true) := by
          have := (sb_eq_48 s).1 h48
          show _ = _
          unfold plainB
          rw [hgood.out, this]; rfl
        go_wp2
        go_ret
        exact ⟨ret_bool hres.out.symm, HCP.out.1⟩
      · have n48 : (s.toList == [48]) = false := by simpa using h48
        have hb48 : Hid ((sb s == [48]) = false) := by
          show _ = _
          rw [beq_eq_false_iff_ne]
          exact fun h => h48 ((sb_eq_48 s).2 h)
        by_cases he : s.toList = []
        · have hres : Hid (plainB (sb s) = false) := by
            show _ = _
            have e : sb s = [] := by rw [sb_toList, he]; rfl
            unfold plainB
            rw [e]; rfl
          have n0 : s.toList.isEmpty = true := by rw [he]; rfl
          clear h48
          go_wp2
          all_goals go_ret
          all_goals exact ⟨ret_bool hres.out.symm, HCP.out.1⟩
        · have n0 : s.toList.isEmpty = false := by simpa using he
          have hp : 0 < s.size := by
            rcases Nat.eq_zero_or_pos s.size with h | h
            · exact absurd (by rw [ByteArray.toList_eq]; exact List.eq_nil_of_length_eq_zero (by simpa using h)) he
            · exact h
          have hres : Hid (plainB (sb s) = (((s[0]'hp).toNat : Int) != 48)) := by
            show _ = _
            unfold plainB
            rw [hgood.out, hb48.out, sb_head s hp]
            simp [bne]
          clear h48 he
          go_wp2
          go_ret
          exact ⟨ret_bool hres.out.symm, HCP.out.1⟩

set_option maxRecDepth 100000 in
set_option maxHeartbeats 1000000 in
theorem shift_any (w : World) (p q d : Int) (k : SOk p q) (hp : p < 1152921504606846976) (d0 : 0 ≤ d) (d1 : d ≤ 9) :
    Calls Try.prog 58 #[.agg #[.int .u64 p, .int .u64 q], .int .u8 d] w fun e w' => ∃ p' q', e = .returned (.agg #[.int .u64 p', .int .u64 q']) ∧
      Hid (SOk p' q' ∧ wv p' q' = wv p q * 10 + d) ∧ Below w.heap.size w w' := by
  obtain ⟨k0, k1, k2, k3⟩ := k
  obtain ⟨ov, hov⟩ : ∃ x, x = q * 10 / 18446744073709551616 := ⟨_, rfl⟩
  obtain ⟨l1, hl1⟩ : ∃ x, x = q * 10 % 18446744073709551616 := ⟨_, rfl⟩
  obtain ⟨l2, hl2⟩ : ∃ x, x = (l1 + d) % 18446744073709551616 := ⟨_, rfl⟩
  obtain ⟨cr, hcr⟩ : ∃ x, x = (l1 + d) / 18446744073709551616 := ⟨_, rfl⟩
  have c1 : ∀ w, Calls Try.prog 44 #[.int .u64 q, .int .u64 10] w fun e w' => e = .returned (.tuple #[.int .u64 ov, .int .u64 l1]) ∧ w = w' := by
    intro w; rw [hov, hl1]; exact mul64 q 10 k2 (by decide) k3 (by decide) w
  have s0 : ∀ w, (callFunc 42 #[.int .u64 l1, .int .u64 d, .int .u64 0]).run Try.prog w = .ok (.value (.tuple #[.int .u64 l2, .int .u64 cr])) w := by
    intro w
    have := add64 l1 d 0 (by omega) d0 (by omega) (by omega) (by decide) (by decide) w
    rw [show l1 + d + 0 = l1 + d by omega, ← hl2, ← hcr] at this
    exact this
  have o0 : 0 ≤ ov := by omega
  have o1 : ov ≤ 9 := by omega
  have cr0 : 0 ≤ cr := by omega
  have cr1 : cr ≤ 1 := by omega
  have spec : Hid (SOk (p * 10 + ov + cr) l2 ∧ wv (p * 10 + ov + cr) l2 = wv p q * 10 + d) := by
    show _ ∧ _
    unfold SOk wv
    omega
  have C1 := Lib.hid c1
  clear c1 hov hl1 hl2 hcr
  go_enter Try.func58, Try.ntmps58
  go_wp2_with (first | (go_at_call 44; refine (C1.out _).mono ?_; rintro e w1 ⟨rfl, rfl⟩) | simp only)
  refine bodyPost_ret (v := .agg #[.int .u64 (p * 10 + ov + cr), .int .u64 l2]) (by simp [results, Try.results58, go_sem]) rfl ⟨_, _, rfl, spec, ?_⟩
  exact ((Below.refl _ _).alloc (Nat.le_refl _) _).alloc (by simp) _
end Go.Proofs.Ytjnohdkpkbiclaa
