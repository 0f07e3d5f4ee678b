/-
  The contracts of ident's Member and of the reference's Member. Conditions: a text of at most 100000 bytes.
-/
import Derived.Test.YtcidbmkmnlneiaaIKnown
namespace Go.Proofs.Ytcidbmkmnlneiaa.Id
open Go.RowKit

/-- May the byte stand in a member's name? -/
def okM (c : Int) : Bool := smB c || dgB c
/-- Is it a member's name? -/
def memB (l : List Int) : Bool := decide (1 ≤ l.length) && decide (l.length ≤ 8) && smB (l.getD 0 0) && l.all okM
def memE (l : List Int) : Int := if memB l then 0 else 3
theorem mem_iff (l : List Int) : memB l = true ↔ 1 ≤ l.length ∧ l.length ≤ 8 ∧ smB (l.getD 0 0) = true ∧ ∀ i, i < l.length → okM (l.getD i 0) = true := by
  unfold memB
  simp only [Bool.and_eq_true, decide_eq_true_eq, List.all_eq_true]
  constructor
  · rintro ⟨⟨⟨h1, h2⟩, h3⟩, h4⟩
    refine ⟨h1, h2, h3, fun i hi => ?_⟩
    rw [List.getD_eq_getElem?_getD, List.getElem?_eq_getElem hi]
    exact h4 _ (List.getElem_mem hi)
  · rintro ⟨h1, h2, h3, h4⟩
    refine ⟨⟨⟨h1, h2⟩, h3⟩, fun c hc => ?_⟩
    obtain ⟨i, hi, rfl⟩ := List.getElem_of_mem hc
    have h := h4 i hi
    rwa [List.getD_eq_getElem?_getD, List.getElem?_eq_getElem hi] at h
theorem memE_no {l : List Int} (h : memB l = false) : memE l = 3 := by unfold memE; rw [h]; rfl
theorem memE_yes {l : List Int} (h : memB l = true) : memE l = 0 := by unfold memE; rw [h]; rfl
theorem mem_not {l : List Int} (h : ¬ (1 ≤ l.length ∧ l.length ≤ 8 ∧ smB (l.getD 0 0) = true ∧ ∀ i, i < l.length → okM (l.getD i 0) = true)) : memE l = 3 := by
  refine memE_no ?_
  cases hh : memB l
  · rfl
  · exact absurd ((mem_iff l).1 hh) h

theorem toList_len (s : ByteArray) : s.toList.length = s.size := by rw [ByteArray.toList_eq]; simp
theorem empty_yes {s : ByteArray} (h : s.size = 0) : s.toList.isEmpty = true := by
  have := toList_len s
  match hl : s.toList with
  | [] => rfl
  | a :: r => rw [hl, List.length_cons] at this; omega
theorem empty_no {s : ByteArray} (h : 0 < s.size) : s.toList.isEmpty = false := by
  have := toList_len s
  match hl : s.toList with
  | [] => rw [hl, List.length_nil] at this; omega
  | a :: r => rfl

set_option maxRecDepth 100000 in
set_option maxHeartbeats 1000000 in
theorem member_any (w : World) (s : ByteArray) (hs : s.size ≤ 100000) :
    Calls Try.prog 17 #[.string s] w fun e w' => e = .returned (.int .i64 (memE (sb s))) ∧ Below w.heap.size w w' := by
  by_cases h0 : s.size = 0
  · have hres : Hid (memE (sb s) = 3) := mem_not (fun h => by have := h.1; rw [sb_len] at this; omega)
    have he : s.toList.isEmpty = true := empty_yes h0
    have he2 : s.toList = [] := by simpa using he
    clear h0
    go_enter Try.func17, Try.ntmps17
    go_wp2
    go_ret
    exact ⟨ret_int hres.out.symm, Below.refl _ _⟩
  · have hp : 0 < s.size := by omega
    have he : s.toList.isEmpty = false := empty_no hp
    by_cases h8 : 8 < s.size
    · have hres : Hid (memE (sb s) = 3) := mem_not (fun h => by have := h.2.1; rw [sb_len] at this; omega)
      clear h0
      go_enter Try.func17, Try.ntmps17
      go_wp2
      go_ret
      exact ⟨ret_int hres.out.symm, Below.refl _ _⟩
    · have hr := sb_range s 0
      have hget := sb_get s 0 hp
      obtain ⟨c, hc⟩ : ∃ c, c = (sb s).getD 0 0 := ⟨_, rfl⟩
      rw [← hc] at hr hget
      obtain ⟨c0, c1⟩ := hr
      obtain ⟨b, hb⟩ : ∃ b, b = smB c := ⟨_, rfl⟩
      have cs : ∀ w, Calls Try.prog 28 #[.int .u8 c] w fun e w' => e = .returned (.bool b) ∧ w = w' := fun w => by
        rw [hb]; exact isSmall_any c w c0 c1
      have CS := Lib.hid cs
      have HC := Lib.hid hc
      have HB := Lib.hid hb
      have s8 : s.size ≤ 8 := by omega
      clear cs hc hb h0 h8
      cases b
      · have hres : Hid (memE (sb s) = 3) := mem_not (fun h => by have := h.2.2.1; rw [← HC.out, ← HB.out] at this; cases this)
        go_enter Try.func17, Try.ntmps17
        go_wp2_with (go_at_call 28; refine (CS.out _).mono ?_; rintro e w' ⟨rfl, rfl⟩)
        go_ret
        exact ⟨ret_int hres.out.symm, Below.refl _ _⟩
      · obtain ⟨cv, cw, hcv, hcp⟩ := str_bytes s
        have HCP := Lib.hid (hcp w)
        have HS1 : Hid (smB ((sb s).getD 0 0) = true) := by show _ = _; rw [← HC.out, ← HB.out]
        clear hcp HB
        go_enter Try.func17, Try.ntmps17
        go_wp2_with (go_at_call 28; refine (CS.out _).mono ?_; rintro e w' ⟨rfl, rfl⟩)
        obtain ⟨W0, hW0⟩ : ∃ W0, W0 = cw w := ⟨_, rfl⟩
        rw [← hW0] at HCP ⊢
        clear hW0 hcv CS hget HC c0 c1
        go_loopg [21] s.size (fun (g : Nat) si wx => W0 = wx ∧ ∃ k : Nat, g = s.size - k ∧ k ≤ s.size ∧ si = .int .i64 (k : Int) ∧ Hid (∀ i, i < k → okM ((sb s).getD i 0) = true))
        case atStart => exact ⟨rfl, 0, rfl, Nat.zero_le _, rfl, fun i hi => by omega⟩
        case round =>
          obtain ⟨rfl, k, rfl, hk, rfl, hall⟩ := hrel
          by_cases hlt : k < s.size
          · obtain ⟨d, hd⟩ : ∃ d, d = (sb s).getD k 0 := ⟨_, rfl⟩
            have hc := HCP.out.2.2 k hlt
            have hr := sb_range s k
            rw [← hd] at hc hr
            obtain ⟨r0, r1⟩ := hr
            have HD := Lib.hid hd
            clear hd
            obtain ⟨g, hg⟩ : ∃ g, g = smB d := ⟨_, rfl⟩
            obtain ⟨q, hq⟩ : ∃ q, q = dgB d := ⟨_, rfl⟩
            have cg : ∀ w, Calls Try.prog 28 #[.int .u8 d] w fun e w' => e = .returned (.bool g) ∧ w = w' := fun w => by
              rw [hg]; exact isSmall_any d w r0 r1
            have cq : ∀ w, Calls Try.prog 27 #[.int .u8 d] w fun e w' => e = .returned (.bool q) ∧ w = w' := fun w => by
              rw [hq]; exact isDigit_any d w r0 r1
            have CG := Lib.hid cg
            have CQ := Lib.hid cq
            have hok : Hid (okM ((sb s).getD k 0) = (g || q)) := by show _ = _; rw [← HD.out, hg, hq]; rfl
            clear cg cq hg hq
            have hgood : Hid ((g || q) = true → ∀ i, i < k + 1 → okM ((sb s).getD i 0) = true) := by
              intro e i hi
              rcases Nat.lt_or_ge i k with h | h
              · exact hall.out i h
              · have : i = k := by omega
                subst this
                rw [hok.out]; exact e
            cases g
            · cases q
              · have hres : Hid (memE (sb s) = 3) := mem_not (fun h => by
                  have := h.2.2.2 k (by rw [sb_len]; exact hlt)
                  rw [hok.out] at this; cases this)
                go_wp2_with (first | (go_at_call 28; refine (CG.out _).mono ?_; rintro e w' ⟨rfl, rfl⟩) | (go_at_call 27; refine (CQ.out _).mono ?_; rintro e w' ⟨rfl, rfl⟩))
                go_ret
                exact ⟨ret_int hres.out.symm, HCP.out.1⟩
              · go_wp2_with (first | (go_at_call 28; refine (CG.out _).mono ?_; rintro e w' ⟨rfl, rfl⟩) | (go_at_call 27; refine (CQ.out _).mono ?_; rintro e w' ⟨rfl, rfl⟩))
                go_roundg (s.size - (k + 1))
                case measure => omega
                case rel => exact ⟨rfl, k + 1, rfl, by omega, by go_num, hgood.out (by trivial)⟩
            · go_wp2_with (first | (go_at_call 28; refine (CG.out _).mono ?_; rintro e w' ⟨rfl, rfl⟩) | (go_at_call 27; refine (CQ.out _).mono ?_; rintro e w' ⟨rfl, rfl⟩))
              go_roundg (s.size - (k + 1))
              case measure => omega
              case rel => exact ⟨rfl, k + 1, rfl, by omega, by go_num, hgood.out (by trivial)⟩
          · have hks : k = s.size := by omega
            have hres : Hid (memE (sb s) = 0) := memE_yes ((mem_iff _).2 ⟨by rw [sb_len]; omega, by rw [sb_len]; exact s8, HS1.out, fun i hi => hall.out i (by rw [hks, ← sb_len]; exact hi)⟩)
            clear hks
            go_wp2
            go_ret
            exact ⟨ret_int hres.out.symm, HCP.out.1⟩

set_option maxRecDepth 100000 in
set_option maxHeartbeats 1000000 in
theorem refMember_any (w : World) (s : ByteArray) (hs : s.size ≤ 100000) :
    Calls Try.prog 18 #[.string s] w fun e w' => e = .returned (.int .i64 (memE (sb s))) ∧ w = w' := by
  by_cases h0 : s.size = 0
  · have hres : Hid (memE (sb s) = 3) := mem_not (fun h => by have := h.1; rw [sb_len] at this; omega)
    have h0' : s.size ≤ 0 := by omega
    clear h0
    go_enter Try.func18, Try.ntmps18
    go_wp2
    go_ret
    exact ⟨ret_int hres.out.symm, rfl⟩
  · have hp : 0 < s.size := by omega
    by_cases h8 : 8 < s.size
    · have hres : Hid (memE (sb s) = 3) := mem_not (fun h => by have := h.2.1; rw [sb_len] at this; omega)
      clear h0
      go_enter Try.func18, Try.ntmps18
      go_wp2
      go_ret
      exact ⟨ret_int hres.out.symm, rfl⟩
    · have hr := sb_range s 0
      have hget := sb_get s 0 hp
      obtain ⟨c, hc⟩ : ∃ c, c = (sb s).getD 0 0 := ⟨_, rfl⟩
      rw [← hc] at hr hget
      obtain ⟨c0, c1⟩ := hr
      obtain ⟨b, hb⟩ : ∃ b, b = smB c := ⟨_, rfl⟩
      have cs : ∀ w, Calls Try.prog 25 #[.int .u8 c, .int .u8 97] w fun e w' => e = .returned (.bool b) ∧ w = w' := fun w => by
        rw [hb]; exact letter_small c w c0 c1
      have CS := Lib.hid cs
      have HC := Lib.hid hc
      have HB := Lib.hid hb
      have s8 : s.size ≤ 8 := by omega
      clear cs hc hb h0 h8
      cases b
      · have hres : Hid (memE (sb s) = 3) := mem_not (fun h => by have := h.2.2.1; rw [← HC.out, ← HB.out] at this; cases this)
        go_enter Try.func18, Try.ntmps18
        go_wp2_with (go_at_call 25; refine (CS.out _).mono ?_; rintro e w' ⟨rfl, rfl⟩)
        go_ret
        exact ⟨ret_int hres.out.symm, rfl⟩
      · have HS1 : Hid (smB ((sb s).getD 0 0) = true) := by show _ = _; rw [← HC.out, ← HB.out]
        clear HB
        go_enter Try.func18, Try.ntmps18
        go_wp2_with (go_at_call 25; refine (CS.out _).mono ?_; rintro e w' ⟨rfl, rfl⟩)
        clear CS hget HC c0 c1
        go_loopg [3] s.size (fun (g : Nat) si wx => w = wx ∧ ∃ k : Nat, g = s.size - k ∧ k ≤ s.size ∧ si = .int .i64 (k : Int) ∧ Hid (∀ i, i < k → okM ((sb s).getD i 0) = true))
        case atStart => exact ⟨rfl, 0, rfl, Nat.zero_le _, rfl, fun i hi => by omega⟩
        case round =>
          obtain ⟨rfl, k, rfl, hk, rfl, hall⟩ := hrel
          by_cases hlt : k < s.size
          · obtain ⟨d, hd⟩ : ∃ d, d = (sb s).getD k 0 := ⟨_, rfl⟩
            have hget := sb_get s k hlt
            have hr := sb_range s k
            rw [← hd] at hget hr
            obtain ⟨r0, r1⟩ := hr
            have HD := Lib.hid hd
            clear hd
            obtain ⟨g, hg⟩ : ∃ g, g = smB d := ⟨_, rfl⟩
            obtain ⟨q, hq⟩ : ∃ q, q = dgB d := ⟨_, rfl⟩
            have cg : ∀ w, Calls Try.prog 25 #[.int .u8 d, .int .u8 97] w fun e w' => e = .returned (.bool g) ∧ w = w' := fun w => by
              rw [hg]; exact letter_small d w r0 r1
            have cq : ∀ w, Calls Try.prog 26 #[.int .u8 d] w fun e w' => e = .returned (.bool q) ∧ w = w' := fun w => by
              rw [hq]; exact digit_any d w r0 r1
            have CG := Lib.hid cg
            have CQ := Lib.hid cq
            have hok : Hid (okM ((sb s).getD k 0) = (g || q)) := by show _ = _; rw [← HD.out, hg, hq]; rfl
            clear cg cq hg hq
            have hgood : Hid ((g || q) = true → ∀ i, i < k + 1 → okM ((sb s).getD i 0) = true) := by
              intro e i hi
              rcases Nat.lt_or_ge i k with h | h
              · exact hall.out i h
              · have : i = k := by omega
                subst this
                rw [hok.out]; exact e
            cases g
            · cases q
              · have hres : Hid (memE (sb s) = 3) := mem_not (fun h => by
                  have := h.2.2.2 k (by rw [sb_len]; exact hlt)
                  rw [hok.out] at this; cases this)
                go_wp2_with (first | (go_at_call 25; refine (CG.out _).mono ?_; rintro e w' ⟨rfl, rfl⟩) | (go_at_call 26; refine (CQ.out _).mono ?_; rintro e w' ⟨rfl, rfl⟩))
                go_ret
                exact ⟨ret_int hres.out.symm, rfl⟩
              · go_wp2_with (first | (go_at_call 25; refine (CG.out _).mono ?_; rintro e w' ⟨rfl, rfl⟩) | (go_at_call 26; refine (CQ.out _).mono ?_; rintro e w' ⟨rfl, rfl⟩))
                go_roundg (s.size - (k + 1))
                case measure => omega
                case rel => exact ⟨rfl, k + 1, rfl, by omega, by go_num, hgood.out (by trivial)⟩
            · go_wp2_with (first | (go_at_call 25; refine (CG.out _).mono ?_; rintro e w' ⟨rfl, rfl⟩) | (go_at_call 26; refine (CQ.out _).mono ?_; rintro e w' ⟨rfl, rfl⟩))
              go_roundg (s.size - (k + 1))
              case measure => omega
              case rel => exact ⟨rfl, k + 1, rfl, by omega, by go_num, hgood.out (by trivial)⟩
          · have hks : k = s.size := by omega
            have hres : Hid (memE (sb s) = 0) := memE_yes ((mem_iff _).2 ⟨by rw [sb_len]; omega, by rw [sb_len]; exact s8, HS1.out, fun i hi => hall.out i (by rw [hks, ← sb_len]; exact hi)⟩)
            clear hks
            go_wp2
            go_ret
            exact ⟨ret_int hres.out.symm, rfl⟩
end Go.Proofs.Ytcidbmkmnlneiaa.Id
