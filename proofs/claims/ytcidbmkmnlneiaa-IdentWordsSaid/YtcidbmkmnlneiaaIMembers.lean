/-
  The contract of ident's Members. Conditions: at most 30 names of at most 20 bytes, in a row of memory of their own.
-/
import Derived.Maps.OwnSet
import Derived.Maps.AppendAt
import Derived.StringKeys
import Derived.Test.YtcidbmkmnlneiaaIMember
namespace Go.Proofs.Ytcidbmkmnlneiaa.Id
open Go.RowKit Go.Maps

/-- What Members must tell. -/
def memsN (ss : List ByteArray) : Int := if ss.all (fun s => memB (sb s)) then (if ss.Nodup then 0 else 6) else 3
def StrRow (w : World) (g : Nat) (ss : List ByteArray) : Prop := ∀ j, j < ss.length → w.cell? ⟨g, j, none⟩ = some (.string (ss.getD j ByteArray.empty))
theorem StrRow.below {w w' : World} {g : Nat} {ss : List ByteArray} {B : Nat} (h : StrRow w g ss) (hb : Below B w w') (hg : g < B) : StrRow w' g ss := fun j hj => (hb.cell (p := ⟨g, j, none⟩) hg).trans (h j hj)

theorem mems_bad {ss : List ByteArray} {k : Nat} (hk : k < ss.length) (h : memB (sb (ss.getD k ByteArray.empty)) = false) : memsN ss = 3 := by
  unfold memsN
  rw [if_neg]
  rw [List.all_eq_true]
  intro ha
  have := ha (ss.getD k ByteArray.empty) (by rw [List.getD_eq_getElem?_getD, List.getElem?_eq_getElem hk]; exact List.getElem_mem hk)
  rw [h] at this
  cases this
theorem mems_all {ss : List ByteArray} (h : ∀ i, i < ss.length → memB (sb (ss.getD i ByteArray.empty)) = true) : ss.all (fun s => memB (sb s)) = true := by
  rw [List.all_eq_true]
  intro s hs
  obtain ⟨i, hi, rfl⟩ := List.getElem_of_mem hs
  have h1 := h i hi
  rwa [List.getD_eq_getElem?_getD, List.getElem?_eq_getElem hi] at h1
theorem mems_dup {ss : List ByteArray} (h : ∀ i, i < ss.length → memB (sb (ss.getD i ByteArray.empty)) = true) (hd : ¬ ss.Nodup) : memsN ss = 6 := by
  unfold memsN
  rw [if_pos (mems_all h), if_neg hd]
theorem mems_ok {ss : List ByteArray} (h : ∀ i, i < ss.length → memB (sb (ss.getD i ByteArray.empty)) = true) (hd : ss.Nodup) : memsN ss = 0 := by
  unfold memsN
  rw [if_pos (mems_all h), if_pos hd]

theorem take_nodup_succ {ss : List ByteArray} {k : Nat} (hk : k < ss.length) (h : (ss.take k).Nodup) (hn : ss.getD k ByteArray.empty ∉ ss.take k) : (ss.take (k + 1)).Nodup := by
  rw [List.take_succ_eq_append_getElem hk, List.nodup_append]
  refine ⟨h, by simp, fun a ha b hb => ?_⟩
  simp at hb
  rintro rfl
  rw [List.getD_eq_getElem?_getD, List.getElem?_eq_getElem hk] at hn
  exact hn (by rw [Option.getD_some, ← hb]; exact ha)
theorem dup_of_mem {ss : List ByteArray} {k : Nat} (hk : k < ss.length) (hm : ss.getD k ByteArray.empty ∈ ss.take k) : ¬ ss.Nodup := by
  intro h
  rw [List.getD_eq_getElem?_getD, List.getElem?_eq_getElem hk, Option.getD_some] at hm
  have h2 : (ss.take k ++ ss.drop k).Nodup := by rw [List.take_append_drop]; exact h
  rw [List.nodup_append] at h2
  exact h2.2.2 _ hm _ (by rw [List.drop_eq_getElem_cons hk]; exact List.mem_cons_self) rfl

/-- The keys of a set of strings. -/
def keysOf (ss : List ByteArray) : List Lit := ss.map fun s => Lit.string s.data.toList
theorem str_inj {s t : ByteArray} (h : s.data.toList = t.data.toList) : s = t := by
  cases s with
  | mk a => cases t with
    | mk b => congr 1; exact Array.toList_inj.1 h
theorem has_keys {H : Type} (ss : List ByteArray) (t : ByteArray) : Maps.has (setOf (H := H) (.agg []) (keysOf ss)) (.string t.data.toList) = true ↔ t ∈ ss := by
  rw [has_setOf _ _ _ (fun y hy => by obtain ⟨_, _, rfl⟩ := List.mem_map.1 hy; trivial)]
  unfold keysOf
  rw [List.any_map, List.any_eq_true]
  constructor
  · rintro ⟨s, hs, h⟩
    have : s.data.toList = t.data.toList := by simpa [Lit.sameKey] using h
    rw [← str_inj this]; exact hs
  · intro h
    exact ⟨t, h, by simp [Lit.sameKey]⟩
theorem keys_snoc {ss : List ByteArray} {k : Nat} (hk : k < ss.length) {H : Type} : setOf (H := H) (.agg []) (keysOf (ss.take (k + 1))) = (setOf (.agg []) (keysOf (ss.take k))).put (.string (ss.getD k ByteArray.empty).data.toList) (.agg []) := by
  rw [List.take_succ_eq_append_getElem hk]
  unfold keysOf
  rw [List.map_append, List.map_singleton, setOf_snoc, List.getD_eq_getElem?_getD, List.getElem?_eq_getElem hk]
  rfl

theorem lawStr : Keyed Try.prog 9 := string_keyed Try.underlying9
theorem zeroUnit (w : World) : (zeroValue 48).run Try.prog w = .ok (.agg #[]) w := by kernel_rfl

set_option maxRecDepth 100000 in
set_option maxHeartbeats 2000000 in
theorem members_some (w : World) (g c : Nat) (ss : List ByteArray) (hn : 0 < ss.length) (hl : ss.length ≤ 30) (hg : g < w.heap.size) (hc : StrRow w g ss) (hsz : ∀ s ∈ ss, s.size ≤ 20) :
    Calls Try.prog 19 #[.slice (some ⟨g, 0, none⟩) ss.length c] w fun e w' => e = .returned (.int .i64 (memsN ss)) ∧ Below w.heap.size w w' := by
  have hmm := @run_makeMap Try.prog
  obtain ⟨n, hnn⟩ : ∃ n, n = ss.length := ⟨_, rfl⟩
  rw [← hnn] at hn hl ⊢
  have HN := Lib.hid hnn
  have HC := Lib.hid hc
  have HSZ := Lib.hid hsz
  clear hnn hc hsz
  go_enter Try.func19, Try.ntmps19
  go_wp2_with fail
  go_loopg [13] n (fun (gh : Nat) si wx => ∃ k : Nat, gh = n - k ∧ k ≤ n ∧ si = .int .i64 (k : Int) ∧ Hid ((∀ i, i < k → memB (sb (ss.getD i ByteArray.empty)) = true) ∧ Below w.heap.size w wx))
  case atStart => exact ⟨0, rfl, Nat.zero_le _, rfl, fun i hi => by omega, Below.refl _ _⟩
  case round =>
    obtain ⟨k, rfl, hk, rfl, hinv⟩ := hrel
    by_cases hlt : k < n
    · obtain ⟨s, hs⟩ : ∃ s, s = ss.getD k ByteArray.empty := ⟨_, rfl⟩
      have hcx := (HC.out.below hinv.out.2 hg) k (by rw [← HN.out]; exact hlt)
      rw [← hs] at hcx
      have hss : s.size ≤ 20 := by
        rw [hs, List.getD_eq_getElem?_getD, List.getElem?_eq_getElem (by rw [← HN.out]; exact hlt)]
        exact HSZ.out _ (List.getElem_mem _)
      obtain ⟨b, hb⟩ : ∃ b, b = memB (sb s) := ⟨_, rfl⟩
      have HS := Lib.hid hs
      have HB := Lib.hid hb
      have cm := fun W => member_any W s (by omega)
      clear hs hb
      cases b
      · have hres : Hid (memsN ss = 3) := mems_bad (k := k) (by rw [← HN.out]; exact hlt) (by rw [← HS.out]; exact HB.out.symm)
        rw [memE_no HB.out.symm] at cm
        have CM := Lib.hid cm
        clear cm
        go_wp2_with (go_at_call 17; refine (CM.out _).mono ?_; rintro e w2 ⟨rfl, hb2⟩)
        go_ret
        exact ⟨ret_int hres.out.symm, hinv.out.2.trans (hb2.mono hinv.out.2.size)⟩
      · rw [memE_yes HB.out.symm] at cm
        have CM := Lib.hid cm
        have hnx : Hid (∀ i, i < k + 1 → memB (sb (ss.getD i ByteArray.empty)) = true) := fun i hi => by
          rcases Nat.lt_or_ge i k with h | h
          · exact hinv.out.1 i h
          · have : i = k := by omega
            subst this
            rw [← HS.out]; exact HB.out.symm
        clear cm
        go_wp2_with (go_at_call 17; refine (CM.out _).mono ?_; rintro e w2 ⟨rfl, hb2⟩)
        go_roundg (n - (k + 1))
        case measure => omega
        case rel => exact ⟨k + 1, rfl, by omega, by go_num, hnx.out, hinv.out.2.trans (hb2.mono hinv.out.2.size)⟩
    · obtain rfl : k = n := by omega
      have hall : Hid (∀ i, i < ss.length → memB (sb (ss.getD i ByteArray.empty)) = true) := fun i hi => hinv.out.1 i (by rw [HN.out]; exact hi)
      have hbw := hinv.out.2
      have HBW := Lib.hid hbw
      have hsz0 := hbw.size
      clear hinv hbw
      obtain ⟨wo, rfl⟩ : ∃ wo : World, wo = wr := ⟨_, rfl⟩
      go_wp2_with fail
      have hE : Hid (setOf (H := Unit) (.agg []) (keysOf (ss.take 0)) = .map []) := rfl
      go_loopg [26] k (fun (gh : Nat) si wx => ∃ j : Nat, gh = k - j ∧ j ≤ k ∧ si = .int .i64 (j : Int) ∧ Hid ((ss.take j).Nodup ∧ wx.ownsMap Try.prog 9 unitElem wo.heap.size j (setOf (H := Unit) (.agg []) (keysOf (ss.take j))) ∧ Below w.heap.size w wx ∧ wo.heap.size ≤ wx.heap.size))
      case atStart => exact ⟨0, rfl, Nat.zero_le _, rfl, by simp, by rw [hE.out]; exact World.ownsMap_made _ _ _ _, HBW.out.alloc hsz0 _, by simp⟩
      case round =>
        obtain ⟨j, rfl, hj, rfl, hinv⟩ := hrel
        by_cases hlt : j < k
        · have hjs : j < ss.length := by rw [← HN.out]; exact hlt
          obtain ⟨s, hs⟩ : ∃ s, s = ss.getD j ByteArray.empty := ⟨_, rfl⟩
          have hcx := (HC.out.below hinv.out.2.2.1 hg) j hjs
          rw [← hs] at hcx
          have hss : s.size ≤ 20 := by
            rw [hs, List.getD_eq_getElem?_getD, List.getElem?_eq_getElem hjs]
            exact HSZ.out _ (List.getElem_mem _)
          have hkey : keyOf Try.prog 9 (.string s) = some (.string s.data.toList) := Go.WideMaps.keyOf_string_mk Try.underlying9 (by unfold maxLen; omega)
          have hown := hinv.out.2.1
          have hsw := hinv.out.2.2.2
          have hbw := hinv.out.2.2.1
          have hbs := hbw.size
          by_cases hm : s ∈ ss.take j
          · have hhas : Maps.has (setOf (H := Unit) (.agg []) (keysOf (ss.take j))) (.string s.data.toList) = true := (has_keys _ _).2 hm
            have hres : Hid (memsN ss = 6) := mems_dup hall.out (dup_of_mem hjs (by rw [← hs]; exact hm))
            have HBW2 := Lib.hid hbw
            clear hs hm hbw hinv hE
            obtain ⟨D, hD⟩ : ∃ D, D = setOf (H := Unit) (.agg []) (keysOf (ss.take j)) := ⟨_, rfl⟩
            rw [← hD] at hown hhas
            clear hD
            go_wp2_with (first
              | (at_lookup; refine wpList_lookup_own_unit _ rfl _ _ 47 rfl 9 48 lawStr Try.underlying47 (zeroUnit _) wo.heap.size j _ rfl hown _ _ rfl hkey ?_)
              | go_in)
            go_ret
            exact ⟨ret_int hres.out.symm, HBW2.out.alloc hbs _⟩
          · have hhas : Maps.has (setOf (H := Unit) (.agg []) (keysOf (ss.take j))) (.string s.data.toList) = false := by
              cases hh : Maps.has (setOf (H := Unit) (.agg []) (keysOf (ss.take j))) (.string s.data.toList)
              · rfl
              · exact absurd ((has_keys _ _).1 hh) hm
            have hnd : Hid ((ss.take (j + 1)).Nodup) := take_nodup_succ hjs hinv.out.1 (by rw [← hs]; exact hm)
            have hsn : Hid (setOf (H := Unit) (.agg []) (keysOf (ss.take (j + 1))) = (setOf (.agg []) (keysOf (ss.take j))).put (.string s.data.toList) (.agg [])) := by show _ = _; rw [hs]; exact keys_snoc hjs
            have HBW2 := Lib.hid hbw
            clear hs hm hbw hinv hE
            obtain ⟨D, hD⟩ : ∃ D, D = setOf (H := Unit) (.agg []) (keysOf (ss.take j)) := ⟨_, rfl⟩
            rw [← hD] at hown hhas hsn
            clear hD
            go_wp2_with (first
              | (at_lookup; refine wpList_lookup_own_unit _ rfl _ _ 47 rfl 9 48 lawStr Try.underlying47 (zeroUnit _) wo.heap.size j _ rfl hown _ _ rfl hkey ?_)
              | (at_mapUpdate; refine wpList_mapUpdate_own _ rfl _ _ _ 47 rfl 9 48 lawStr Try.underlying47 (unitElem (H := Unit)) wo.heap.size j _ rfl (hown.alloc _) (by unfold maxLen; omega) _ _ _ rfl rfl hkey _ [] unitElem_mk ?_; intro w1 hown1 hgrow1)
              | go_in)
            have s1 := hgrow1.size
            simp at s1
            go_roundg (k - (j + 1))
            case measure => omega
            case rel => exact ⟨j + 1, rfl, by omega, by go_num, hnd.out, by rw [hsn.out]; exact hown1, (HBW2.out.alloc hbs _).grown hgrow1 (by simp; omega) (fun i hi => by cases hi; exact hsz0), by omega⟩
        · obtain rfl : j = k := by omega
          have hres : Hid (memsN ss = 0) := mems_ok hall.out (by have := hinv.out.1; rwa [List.take_of_length_le (by rw [← HN.out]; exact Nat.le_refl _)] at this)
          have HBW2 := Lib.hid hinv.out.2.2.1
          clear hinv hE
          go_wp2
          go_ret
          exact ⟨ret_int hres.out.symm, HBW2.out⟩

set_option maxRecDepth 100000 in
theorem members_none (w : World) : Calls Try.prog 19 #[.slice none 0 0] w fun e w' => e = .returned (.int .i64 0) ∧ Below w.heap.size w w' := by
  have hmm := @run_makeMap Try.prog
  go_enter Try.func19, Try.ntmps19
  go_wp2
  refine wp_loop_rounds 1 ?_
  rw [rounds_succ]
  go_wp2
  refine wp_loop_rounds 1 ?_
  rw [rounds_succ]
  go_wp2
  go_ret
  exact ⟨rfl, (Below.refl _ _).alloc (Nat.le_refl _) _⟩
end Go.Proofs.Ytcidbmkmnlneiaa.Id
