/-
  The contract of the reference's Of, and what both lists of a right roster are. Conditions: at most a thousand members, none twice.
-/
import Derived.Test.YtkoihpfgleboiaaRSort
import Derived.Test.YtkoihpfgleboiaaRSame
import Derived.Test.YtkoihpfgleboiaaRRef
import Derived.Test.YtkoihpfgleboiaaRMat2
namespace Go.Proofs.Ytkoihpfgleboiaa.Ro
open Go.RowKit Tb

theorem mem_put {V : Type} {M : List (ByteArray × V)} {q : Nat} {y x : ByteArray × V} : x ∈ M.take q ++ y :: M.drop q ↔ x ∈ M ∨ x = y := by
  have hx : x ∈ M ↔ x ∈ M.take q ∨ x ∈ M.drop q := by rw [← List.mem_append, List.take_append_drop]
  rw [hx, List.mem_append, List.mem_cons]
  constructor
  · rintro (h | h | h)
    · exact .inl (.inl h)
    · exact .inr h
    · exact .inl (.inr h)
  · rintro ((h | h) | h)
    · exact .inl h
    · exact .inr (.inr h)
    · exact .inr (.inl h)
theorem nodup_snoc {L : List ByteArray} {s : ByteArray} (h : L.Nodup) (hs : ¬ s ∈ L) : (L ++ [s]).Nodup := by
  rw [List.nodup_append]
  refine ⟨h, by simp, fun a ha b hb => ?_⟩
  rw [List.mem_singleton] at hb
  subst hb
  exact fun e => hs (e ▸ ha)
theorem goM_mem (n : Int) : ∀ (l p : List (ByteArray × Int)), (∀ x, x ∈ meL p ↔ x ∈ p) → (p.map (·.1)).Nodup → goM n (meL p) l = 0 → (∀ x, x ∈ meL (p ++ l) ↔ x ∈ p ++ l) ∧ ((p ++ l).map (·.1)).Nodup
  | [], p, h1, h2, _ => by rw [List.append_nil]; exact ⟨h1, h2⟩
  | m :: l, p, h1, h2, h => by
    unfold goM at h
    split at h
    · rename_i h0
      obtain ⟨hno, _⟩ := admit_ok h0
      have e : meL (p ++ [m]) = putL (meL p) m.1 m.2 := by unfold meL; exact putAll_snoc p m
      rw [← e] at h
      have ih := goM_mem n l (p ++ [m]) (fun x => by
        rw [e, Si.putL_not _ _ _ hno, mem_put, List.mem_append, List.mem_singleton, h1 x]) (by
        rw [List.map_append]
        refine nodup_snoc h2 fun hh => ?_
        obtain ⟨r, hr, e2⟩ := List.mem_map.1 hh
        have := (has_meL p m.1).2 ⟨r, hr, e2⟩
        rw [hno] at this
        cases this) h
      rw [List.append_assoc] at ih
      exact ih
    · contradiction
theorem goI_nodup : ∀ (l p : List ByteArray), p.Nodup → goI (isL p) l = 0 → (p ++ l).Nodup
  | [], p, h2, _ => by rw [List.append_nil]; exact h2
  | s :: l, p, h2, h => by
    unfold goI at h
    split at h
    · rename_i h0
      have hno : hasB (isL p) s = false := by
        cases hb : hasB (isL p) s
        · rfl
        · unfold listE at h0
          split at h0
          · first | (rw [hb] at h0; cases h0) | cases h0
          · contradiction
      have e : isL (p ++ [s]) = putL (isL p) s () := by
        unfold isL
        rw [List.map_append]
        exact putAll_snoc _ _
      rw [← e] at h
      have ih := goI_nodup l (p ++ [s]) (nodup_snoc h2 fun hh => by
        have := (has_isL p s).2 hh
        rw [hno] at this
        cases this) h
      rw [List.append_assoc] at ih
      exact ih
    · contradiction
theorem dist_of {L : List ByteArray} (h : L.Nodup) : ∀ i s, L[i]? = some s → hasB (isL (L.take i)) s = false := fun i s hs => by
  cases hb : hasB (isL (L.take i)) s
  · rfl
  · obtain ⟨k, hk, e⟩ := (has_isL_take L i s).1 hb
    obtain ⟨h1, e1⟩ := List.getElem?_eq_some_iff.1 hs
    obtain ⟨h2, e2⟩ := List.getElem?_eq_some_iff.1 e
    exact absurd (e2.trans e1.symm) ((List.pairwise_iff_getElem.1 h) k i h2 h1 hk)
theorem mems_nodup {ms : List (ByteArray × Int)} (h : (ms.map (·.1)).Nodup) (k : Int) : (memsL k ms).Nodup :=
  List.Nodup.sublist (List.Sublist.map _ List.filter_sublist) h
theorem mem_mems {k : Int} {M : List (ByteArray × Int)} {s : ByteArray} : s ∈ memsL k M ↔ (s, k) ∈ M := by
  unfold memsL
  rw [List.mem_map]
  constructor
  · rintro ⟨r, hr, rfl⟩
    rw [List.mem_filter, decide_eq_true_eq] at hr
    rw [← hr.2]
    exact hr.1
  · intro h
    exact ⟨(s, k), by rw [List.mem_filter, decide_eq_true_eq]; exact ⟨h, rfl⟩, rfl⟩
/-- Who is a CCP's, rising: the reference's list is the roster's. -/
theorem of_eq {ms : List (ByteArray × Int)} (hm : ∀ x, x ∈ meL ms ↔ x ∈ ms) (k : Int) : keysL (isL (memsL k ms)) = memsL k (meL ms) := by
  obtain ⟨P, hP⟩ : ∃ P : List (ByteArray × Unit), P = ((meL ms).filter fun r => decide (r.2 = k)).map fun r => (r.1, ()) := ⟨_, rfl⟩
  have hk : keysL P = memsL k (meL ms) := by rw [hP]; unfold keysL memsL; rw [List.map_map]; rfl
  have ha : asc P := by
    rw [hP]
    unfold asc
    rw [List.pairwise_map]
    exact List.Pairwise.sublist List.filter_sublist (meL_asc ms)
  have he : isL (memsL k ms) = P := by
    refine asc_ext _ _ (isL_asc _) ha fun q => ?_
    have h1 : hasB (isL (memsL k ms)) q = hasB P q := by
      rw [Bool.eq_iff_iff, has_isL, has_iff P q ha, mem_mems]
      constructor
      · intro h
        refine ⟨(), ?_⟩
        rw [hP, List.mem_map]
        exact ⟨(q, k), by rw [List.mem_filter, decide_eq_true_eq]; exact ⟨(hm _).2 h, rfl⟩, rfl⟩
      · rintro ⟨v, h⟩
        rw [hP, List.mem_map] at h
        obtain ⟨r, hr, e⟩ := h
        rw [List.mem_filter, decide_eq_true_eq] at hr
        have e1 : r.1 = q := congrArg Prod.fst e
        rw [← e1, ← hr.2]
        exact (hm _).1 hr.1
    rw [has_look _ (isL_asc _) q, has_look _ ha q] at h1
    cases hx : Tb.look (isL (memsL k ms)) q <;> cases hy : Tb.look P q <;> rw [hx, hy] at h1 <;> first | rfl | cases h1
  rw [he, hk]
/-- What a right roster's lists are. -/
theorem lists_of {n : Int} {ss : List ByteArray} {ms : List (ByteArray × Int)} (h : newE n ss ms = 0) : ss.Nodup ∧ (ms.map (·.1)).Nodup ∧ ∀ x, x ∈ meL ms ↔ x ∈ ms := by
  obtain ⟨_, _, _, _, h5, h6⟩ := newE_zero h
  have h7 := goM_mem n ms [] (fun x => Iff.rfl) List.nodup_nil h6
  exact ⟨goI_nodup ss [] List.nodup_nil h5, h7.2, h7.1⟩

set_option maxRecDepth 100000 in
set_option maxHeartbeats 4000000 in
theorem of_any (w : World) (n : Int) (A : Option Addr) (c1 k1 : Nat) (B : Option Addr) (c2 : Nat) (ms : List (ByteArray × Int)) (k : Int) (hm : MRd w B ms) (hn : ms.length ≤ 1000) (hd : (memsL k ms).Nodup) :
    Calls Try.prog 17 #[.agg #[.int .i64 n, .slice A k1 c1, .slice B ms.length c2], .int .i64 k] w fun e w' => ∃ v, e = .returned v ∧ w'.ownsRow w.heap.size 9 1 v (memsL k ms).length (strs (keysL (isL (memsL k ms)))) ∧ Below w.heap.size w w' := by
  obtain ⟨i0, hi, hz0, hz1, hz2⟩ := info_parts infoS
  have hbx := block_new w (.cells #[.int .i64 n, .slice A k1 c1, .slice B ms.length c2] 25)
  have hB0 : Below w.heap.size w (w.alloc (.cells #[.int .i64 n, .slice A k1 c1, .slice B ms.length c2] 25)) := (Below.refl _ _).alloc (Nat.le_refl _) _
  obtain ⟨W0, hW0⟩ : ∃ W0, W0 = w.alloc (.cells #[.int .i64 n, .slice A k1 c1, .slice B ms.length c2] 25) := ⟨_, rfl⟩
  have HM : Hid (MRd W0 B ms) := by rw [hW0]; exact hm.below hB0
  rw [← hW0] at hbx hB0
  have HBX := Lib.hid hbx
  have HB0 := Lib.hid hB0
  have HDD := Lib.hid hd
  clear hm hbx hB0 hd
  go_enter Try.func17, Try.ntmps17
  go_wp2
  rw [← hW0]
  clear hW0
  go_loopg [6, 5] ms.length (fun (gh : Nat) si sv wx => ∃ i : Nat, gh = ms.length - i ∧ i ≤ ms.length ∧ si = .int .i64 (i : Int) ∧ Hid (wx.ownsRow W0.heap.size 9 1 sv (memsL k (ms.take i)).length (strs (memsL k (ms.take i))) ∧ Below W0.heap.size W0 wx))
  case atStart => exact ⟨0, rfl, Nat.zero_le _, rfl, World.ownsRow_nil _ _ _ _, Below.refl _ _⟩
  case round =>
    obtain ⟨i, rfl, him, rfl, hinv⟩ := hrel
    obtain ⟨v, hv⟩ : ∃ v, u5 = v := ⟨_, rfl⟩
    subst hv
    have hbel := hinv.out.2
    obtain ⟨⟨x0, x1, x2⟩, _⟩ := blk3 (block_kept HBX.out hbel)
    have HR := Lib.hid hinv.out.1
    have HB := Lib.hid hbel
    have hsz := hbel.size
    clear hinv
    by_cases hlt : i < ms.length
    · obtain ⟨m, hm⟩ : ∃ m, ms[i]? = some m := ⟨_, List.getElem?_eq_getElem hlt⟩
      rcases HM.out with h0 | ⟨g, o, rfl, hg, hcell⟩
      · rw [h0] at hm; simp at hm
      have hcm := hcell i m hm
      have d1 := (hbel.cell (p := ⟨g, o + i * 2, none⟩) hg).trans hcm.1
      have d2 := (hbel.cell (p := ⟨g, o + i * 2 + 1, none⟩) hg).trans hcm.2
      have t1 : (i : Int) < (ms.length : Int) := by omega
      have t2 : (0 : Int) ≤ (i : Int) := by omega
      have hst : memsL k (ms.take (i + 1)) = memsL k (ms.take i) ++ if m.2 = k then [m.1] else [] := by
        rw [List.take_succ_eq_append_getElem hlt, (List.getElem?_eq_some_iff.1 hm).2]
        exact memsL_snoc k _ m
      have hlen : (memsL k (ms.take i)).length ≤ i := Nat.le_trans (memsL_len k _) (by rw [List.length_take]; omega)
      obtain ⟨L, hL⟩ : ∃ L, L = memsL k (ms.take i) := ⟨_, rfl⟩
      rw [← hL] at HR hst hlen
      obtain ⟨nn, hnn⟩ : ∃ nn, nn = L.length := ⟨_, rfl⟩
      rw [← hnn] at HR hlen
      have HNN := Lib.hid hnn
      obtain ⟨s, hs⟩ : ∃ s, s = m.1 := ⟨_, rfl⟩
      obtain ⟨hh, hhh⟩ : ∃ hh, hh = m.2 := ⟨_, rfl⟩
      rw [← hs] at d1 hst
      rw [← hhh] at d2 hst
      clear hcm hcell hbel hm hL hnn hs hhh
      by_cases hik : hh = k
      · rw [if_pos hik] at hst
        have HST := Lib.hid hst
        have hne : (hh == k) = true := by simpa using hik
        clear hst hik
        go_wp2_with (at_builtin; refine wpList_append_own _ rfl _ _ 22 rfl W0.heap.size 9 i0 _ 1 16 Try.underlying22 hi hz0 hz1 hz2 rfl (by decide) _ _ _ rfl (HR.out.alloc _) ⟨wr.heap.size, 0, none⟩ 1 1 [.string s] rfl rfl (one_new _ _ _) (strs_one [s]) (by unfold maxLen; omega) (by omega) (by simp; omega) ?_; intro v' w2 hown' hgrow hnil)
        have hb2 : Below W0.heap.size W0 w2 := below_grown (HB.out.alloc hsz _) (HR.out.alloc _) (Nat.le_refl _) (by simp; omega) hgrow
        go_roundg (ms.length - (i + 1))
        case measure => omega
        case rel => exact ⟨i + 1, rfl, by omega, by go_num, by rw [HST.out, List.length_append, ← HNN.out]; simpa [strs] using hown', hb2⟩
      · rw [if_neg hik, List.append_nil] at hst
        have HST := Lib.hid hst
        have hne : (hh == k) = false := by simpa using hik
        clear hst hik
        go_wp2
        go_roundg (ms.length - (i + 1))
        case measure => omega
        case rel => exact ⟨i + 1, rfl, by omega, by go_num, by rw [HST.out, ← HNN.out]; exact HR.out, HB.out⟩
    · obtain rfl : i = ms.length := by omega
      rw [List.take_length] at HR
      have hl := memsL_len k ms
      obtain ⟨A3, c3, rfl, hr3⟩ := own_strs HR.out
      have HS := Lib.hid (sorted_any wr A3 c3 (memsL k ms) hr3 (by omega) (dist_of HDD.out))
      obtain ⟨L, hL⟩ : ∃ L, L = memsL k ms := ⟨_, rfl⟩
      have HLL := Lib.hid hL
      rw [← hL] at HS HR ⊢
      clear hr3 hL hbel
      go_wp2_with (go_at_call 18; refine HS.out.mono ?_; rintro e w2 ⟨v, rfl, ho2, hb2⟩; have HO2 := Lib.hid (own_base ho2 (Nat.le_trans HB0.out.size hsz)); have HB2 := Lib.hid (HB0.out.trans ((HB.out.trans (hb2.mono HB.out.size)).mono HB0.out.size)); clear ho2 hb2)
      go_ret
      rw [← HLL.out]
      exact ⟨_, rfl, HO2.out, HB2.out⟩
end Go.Proofs.Ytkoihpfgleboiaa.Ro
