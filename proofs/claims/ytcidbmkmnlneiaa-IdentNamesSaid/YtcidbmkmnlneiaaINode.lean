/-
  The contracts of ident's Node and NodeName and of the reference's Node. Conditions: a text that fits memory; an int's range.
-/
import Derived.Test.YtcidbmkmnlneiaaIKnown
namespace Go.Proofs.Ytcidbmkmnlneiaa.Id
open Go.RowKit

/-- The number of the CCP of that name, below 0: none. -/
def nodeN (l : List Int) : Int := if l = [65] then 0 else if l = [66] then 1 else if l = [67] then 2 else -1
theorem node_one {c : Int} (h0 : 65 ≤ c) (h1 : c ≤ 67) : nodeN [c] = c - 65 := by
  rcases (by omega : c = 65 ∨ c = 66 ∨ c = 67) with rfl | rfl | rfl <;> rfl
theorem node_off {c : Int} (h : c < 65 ∨ 67 < c) : nodeN [c] = -1 := by
  unfold nodeN
  rw [if_neg (by simp; omega), if_neg (by simp; omega), if_neg (by simp; omega)]
theorem node_len {l : List Int} (h : l.length ≠ 1) : nodeN l = -1 := by
  unfold nodeN
  rw [if_neg (fun e => h (by rw [e]; rfl)), if_neg (fun e => h (by rw [e]; rfl)), if_neg (fun e => h (by rw [e]; rfl))]
theorem node_range (l : List Int) : -1 ≤ nodeN l ∧ nodeN l ≤ 2 := by
  unfold nodeN
  split
  · omega
  · split
    · omega
    · split <;> omega

theorem sb_toList (s : ByteArray) : sb s = s.toList.map fun b => (b.toNat : Int) := by rw [sb, ByteArray.toList_eq]
theorem toList_one (s : ByteArray) (c : UInt8) : (s.toList == [c]) = decide (sb s = [(c.toNat : Int)]) := by
  rw [Bool.eq_iff_iff, sb_toList]
  simp only [beq_iff_eq, decide_eq_true_eq]
  constructor
  · intro h; rw [h]; rfl
  · intro h
    have inj : ∀ a b : UInt8, ((a.toNat : Int) = (b.toNat : Int)) → a = b := fun a b h => UInt8.toNat_inj.1 (by omega)
    exact (List.map_inj_right (fun a b h => inj a b h)).1 (h.trans rfl)
theorem sb_single (s : ByteArray) (h : s.size = 1) : sb s = [(sb s).getD 0 0] := by
  have hl : (sb s).length = 1 := by rw [sb_len]; exact h
  match hs : sb s, hl with
  | [a], _ => rfl

set_option maxRecDepth 100000 in
theorem node_any (w : World) (s : ByteArray) (_hs : s.size ≤ 100000) {x er : Int} (hx : Hid ((0 ≤ nodeN (sb s) ∧ x = nodeN (sb s) ∧ er = 0) ∨ (nodeN (sb s) = -1 ∧ x = 0 ∧ er = 5))) :
    Calls Try.prog 14 #[.string s] w fun e w' => e = .returned (.tuple #[.int .i64 x, .int .i64 er]) ∧ w = w' := by
  by_cases h1 : s.size = 1
  · have n1 : ((s.size : Int) != 1) = false := by simp; omega
    have hp : 0 < s.size := by omega
    have hsg := sb_single s h1
    have hr := sb_range s 0
    have hget := sb_get s 0 hp
    obtain ⟨c, hc⟩ : ∃ c, c = (sb s).getD 0 0 := ⟨_, rfl⟩
    rw [← hc] at hsg hr hget
    obtain ⟨c0, c1⟩ := hr
    have HSG := Lib.hid hsg
    clear hc hsg h1
    rcases (by omega : c < 65 ∨ 68 ≤ c ∨ (65 ≤ c ∧ c ≤ 67)) with k1 | k1 | ⟨k1, k2⟩
    · have hres : x = 0 ∧ er = 5 := by
        have h := hx.out
        rw [HSG.out, node_off (.inl k1)] at h
        rcases h with ⟨h, _⟩ | ⟨_, h⟩
        · omega
        · exact h
      obtain ⟨rfl, rfl⟩ := hres
      clear hx
      go_enter Try.func14, Try.ntmps14
      go_wp2
      go_ret2
      exact ⟨rfl, rfl⟩
    · have hres : x = 0 ∧ er = 5 := by
        have h := hx.out
        rw [HSG.out, node_off (.inr (by omega))] at h
        rcases h with ⟨h, _⟩ | ⟨_, h⟩
        · omega
        · exact h
      obtain ⟨rfl, rfl⟩ := hres
      clear hx
      go_enter Try.func14, Try.ntmps14
      go_wp2
      go_ret2
      exact ⟨rfl, rfl⟩
    · have hres : x = c - 65 ∧ er = 0 := by
        have h := hx.out
        rw [HSG.out, node_one k1 k2] at h
        rcases h with ⟨_, h⟩ | ⟨h, _⟩
        · exact h
        · omega
      obtain ⟨rfl, rfl⟩ := hres
      clear hx
      go_enter Try.func14, Try.ntmps14
      go_wp2
      go_ret2
      exact ⟨rfl, rfl⟩
  · have n1 : ((s.size : Int) != 1) = true := by simp; omega
    have hres : x = 0 ∧ er = 5 := by
      have h := hx.out
      rw [node_len (by rw [sb_len]; exact h1)] at h
      rcases h with ⟨h, _⟩ | ⟨_, h⟩
      · omega
      · exact h
    obtain ⟨rfl, rfl⟩ := hres
    clear h1 hx
    go_enter Try.func14, Try.ntmps14
    go_wp2
    go_ret2
    exact ⟨rfl, rfl⟩

set_option maxRecDepth 100000 in
theorem refNode_any (w : World) (s : ByteArray) : Calls Try.prog 16 #[.string s] w fun e w' => e = .returned (.int .i64 (nodeN (sb s))) ∧ w = w' := by
  have eA := toList_one s 65
  have eB := toList_one s 66
  have eC := toList_one s 67
  have hA : (s.toList == [65]) = decide (sb s = [65]) := eA
  have hB : (s.toList == [66]) = decide (sb s = [66]) := eB
  have hC : (s.toList == [67]) = decide (sb s = [67]) := eC
  clear eA eB eC
  by_cases kA : sb s = [65]
  · have hres : Hid (nodeN (sb s) = 0) := by show _ = _; rw [kA]; rfl
    rw [decide_eq_true kA] at hA
    clear hB hC kA
    go_enter Try.func16, Try.ntmps16
    go_wp2
    go_ret
    exact ⟨ret_int hres.out.symm, rfl⟩
  · rw [decide_eq_false kA] at hA
    by_cases kB : sb s = [66]
    · have hres : Hid (nodeN (sb s) = 1) := by show _ = _; rw [kB]; rfl
      rw [decide_eq_true kB] at hB
      clear hC kA kB
      go_enter Try.func16, Try.ntmps16
      go_wp2
      go_ret
      exact ⟨ret_int hres.out.symm, rfl⟩
    · rw [decide_eq_false kB] at hB
      by_cases kC : sb s = [67]
      · have hres : Hid (nodeN (sb s) = 2) := by show _ = _; rw [kC]; rfl
        rw [decide_eq_true kC] at hC
        clear kA kB kC
        go_enter Try.func16, Try.ntmps16
        go_wp2
        go_ret
        exact ⟨ret_int hres.out.symm, rfl⟩
      · rw [decide_eq_false kC] at hC
        have hres : Hid (nodeN (sb s) = -1) := by show _ = _; unfold nodeN; rw [if_neg kA, if_neg kB, if_neg kC]
        clear kA kB kC
        go_enter Try.func16, Try.ntmps16
        go_wp2
        go_ret
        exact ⟨ret_int hres.out.symm, rfl⟩

set_option maxRecDepth 100000 in
theorem nodeName_no (w : World) (n : Int) (h : n < 0 ∨ 2 < n) : Calls Try.prog 15 #[.int .i64 n] w fun e w' => e = .returned (.tuple #[.string ByteArray.empty, .int .i64 5]) ∧ w = w' := by
  rcases h with h | h
  · go_enter Try.func15, Try.ntmps15
    go_wp2
    go_ret2
    exact ⟨rfl, rfl⟩
  · go_enter Try.func15, Try.ntmps15
    go_wp2
    go_ret2
    exact ⟨rfl, rfl⟩
set_option maxRecDepth 100000 in
theorem nodeName_yes (w : World) (n : Int) (h0 : 0 ≤ n) (h1 : n ≤ 2) : Calls Try.prog 15 #[.int .i64 n] w fun e w' => e = .returned (.tuple #[.string (one (65 + n)), .int .i64 0]) ∧ w = w' := by
  have henc := encode_one (c := 65 + n) (by omega) (by omega)
  have hcv : ∀ W, (convert 21 9 (.int .i32 (65 + n))).run Try.prog W = .ok (.string (one (65 + n))) W := fun W => by
    rw [← henc]
    simp [convert, run_underlying Try.underlying9, run_underlying Try.underlying21, Conv.intToString]
  clear henc
  go_enter Try.func15, Try.ntmps15
  go_wp2
  go_ret2
  exact ⟨rfl, rfl⟩
end Go.Proofs.Ytcidbmkmnlneiaa.Id
