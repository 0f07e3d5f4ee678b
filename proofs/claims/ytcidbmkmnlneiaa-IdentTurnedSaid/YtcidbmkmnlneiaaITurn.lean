/-
  The law IdentTurned answers true: its walk. Conditions: the types' own ranges.
-/
import Derived.Test.YtcidbmkmnlneiaaILawIsi
namespace Go.Proofs.Ytcidbmkmnlneiaa.Id
open Go.RowKit

def mkStr (bs : List Int) : ByteArray := bs.foldl (fun r n => r.push (UInt8.ofNat n.toNat)) ByteArray.empty
theorem mkStr_data (bs : List Int) : (mkStr bs).data.toList = bs.map (fun n => UInt8.ofNat n.toNat) := by
  have : ∀ (l : List Int) (r : ByteArray), (l.foldl (fun r n => r.push (UInt8.ofNat n.toNat)) r).data.toList = r.data.toList ++ l.map (fun n => UInt8.ofNat n.toNat) := by
    intro l
    induction l with
    | nil => intro r; simp
    | cons a t ih => intro r; rw [List.foldl_cons, ih]; simp [ByteArray.push]
  have h := this bs ByteArray.empty
  simpa [mkStr] using h
theorem sb_mkStr (bs : List Int) (h : ∀ b ∈ bs, 0 ≤ b ∧ b ≤ 255) : sb (mkStr bs) = bs := by
  unfold sb
  rw [mkStr_data, List.map_map]
  have : bs.map ((fun b : UInt8 => (b.toNat : Int)) ∘ fun n : Int => UInt8.ofNat n.toNat) = bs.map id := by
    apply List.map_congr_left
    intro b hb
    have := h b hb
    simp
    omega
  rw [this, List.map_id]

/-- A string's bytes laid in memory, free to be written. -/
theorem str_free (s : ByteArray) : ∃ (cv : World → Nat) (cw : World → World), (∀ W, (convert 9 30 (.string s)).run Try.prog W = .ok (.slice (some ⟨W.heap.size, 0, none⟩) s.size (cv W)) (cw W)) ∧
    (∀ W, Below W.heap.size W (cw W) ∧ (∀ i, i < s.size → (cw W).cell? ⟨W.heap.size, i, none⟩ = some (.int .u8 ((sb s).getD i 0))) ∧ (∀ i, i < s.size → (cw W).frozen? ⟨W.heap.size, i, none⟩ = false)) := by
  refine ⟨_, _, fun W => run_bytes_of_string (P := Try.prog) W 9 30 5 s Try.underlying9 Try.underlying30 Try.underlying5, fun W => ⟨((Below.refl _ _).drew).alloc (Nat.le_refl _) _, ?_, ?_⟩⟩
  · intro i hi
    have h1 := heap_alloc_new W.drew (.cells (bytesRow s (grownCap W s.size 0 5)) 5 ((bytesRow s (grownCap W s.size 0 5)).size, (bytesRow s (grownCap W s.size 0 5)).size + 1))
    rw [cell_of_row _ W.heap.size i _ _ _ h1]
    have hi2 : i < s.data.size := hi
    simp only [bytesRow, sb, List.getD_eq_getElem?_getD, List.getElem?_map]
    rw [Array.getElem?_append_left (by simpa using hi2)]
    simp only [Array.getElem?_map, Array.getElem?_toList]
    rw [Array.getElem?_eq_getElem hi2]
    rfl
  · intro i hi
    have h1 := heap_alloc_new W.drew (.cells (bytesRow s (grownCap W s.size 0 5)) 5 ((bytesRow s (grownCap W s.size 0 5)).size, (bytesRow s (grownCap W s.size 0 5)).size + 1))
    have hi2 : i < (bytesRow s (grownCap W s.size 0 5)).size := by
      have : i < s.data.size := hi
      simp [bytesRow]
      omega
    have e : W.drew.heap.size = W.heap.size := rfl
    rw [e] at h1
    simp only [World.frozen?, h1]
    simp
    omega

theorem bytes_turned (m : ByteArray) (W : World) (g j cap : Nat) (b : Int) (hc : ∀ i, i < m.size → W.cell? ⟨g, i, none⟩ = some (.int .u8 ((sb m).getD i 0))) (hj : j < m.size) :
    (convert 30 9 (.slice (some ⟨g, 0, none⟩) m.size cap)).run Try.prog (W.setCell ⟨g, j, none⟩ (.int .u8 b)) = .ok (.string (mkStr ((sb m).set j b))) (W.setCell ⟨g, j, none⟩ (.int .u8 b)) := by
  rw [run_convert_bytes_string _ 30 9 5 _ _ _ Try.underlying30 Try.underlying5 Try.underlying9]
  refine run_bytesToString (W.setCell ⟨g, j, none⟩ (.int .u8 b)) _ m.size cap ((sb m).set j b) ?_
  have := run_loadCells_list (P := Try.prog) (w := W.setCell ⟨g, j, none⟩ (.int .u8 b)) ⟨g, 0, none⟩ (((sb m).set j b).map (Value.int .u8)) (fun i v hv => by
    have e : (⟨g, 0, none⟩ : Addr).add i = ⟨g, i, none⟩ := by unfold Addr.add; split <;> simp_all
    have hi : i < m.size := by
      rcases Nat.lt_or_ge i m.size with h | h
      · exact h
      · rw [List.getElem?_eq_none (by simp [sb_len]; exact h)] at hv; cases hv
    rw [e]
    by_cases hij : i = j
    · subst hij
      rw [World.cell?_setCell_same' _ _ _ (by rw [hc i hi]; rfl)]
      rw [List.getElem?_map, List.getElem?_set_self (by rw [sb_len]; exact hi)] at hv
      exact hv
    · rw [World.cell?_setCell_other _ _ _ _ (fun h => hij (by injection h with _ h; exact h.symm)), hc i hi]
      rw [List.getElem?_map, List.getElem?_set_ne (fun h => hij h.symm), List.getElem?_eq_getElem (by rw [sb_len]; exact hi)] at hv
      rw [List.getD_eq_getElem?_getD, List.getElem?_eq_getElem (by rw [sb_len]; exact hi)]
      exact hv)
  rw [show (((sb m).set j b).map (Value.int .u8)).length = m.size by simp [sb_len]] at this
  exact this

set_option maxRecDepth 100000 in
set_option maxHeartbeats 4000000 in
theorem law_turned (w : World) (s0 : ByteArray) (a b : Int) (hs0 : s0.size ≤ 9223372036854775807) (b0 : 0 ≤ b) (b1 : b ≤ 255) :
    Calls Try.prog 4 #[.string s0, .int .i64 a, .int .u8 b] w fun e w' => e = .returned (.bool true) ∧ Below w.heap.size w w' := by
  obtain ⟨n, hn⟩ : ∃ n, n = min s0.size 11 := ⟨_, rfl⟩
  have n1 : n ≤ s0.size := by omega
  have n2 : n ≤ 11 := by omega
  have hsl := fun W => slice_to s0 n n1 W
  obtain ⟨t, ht⟩ : ∃ t, t = s0.extract 0 n := ⟨_, rfl⟩
  have htl : t.size ≤ 11 := by
    have h := sb_take s0 n
    rw [← sb_len, ht, h, List.length_take]
    omega
  rw [← ht] at hsl
  have hmin : (if (11 : Int) < (s0.size : Int) then 11 else (s0.size : Int)) = (n : Int) := by
    split <;> omega
  clear ht hn
  cases hh : headB (sb t)
  · have C2 := Lib.hid (fun W => make_no W t (by omega) hh)
    clear hh
    go_enter Try.func4, Try.ntmps4
    go_wp2_with (first
      | (go_at_call 9; refine (C2.out _).mono ?_; rintro e w2 ⟨rfl, hb2⟩)
      | (go_at_call 11; refine (known_any _).mono ?_; rintro e w4 ⟨rfl, hb4⟩))
    go_ret
    exact ⟨rfl, hb2.trans (hb4.mono hb2.size)⟩
  · have hm : sb (madeS t) = madeL (sb t) := sb_made t
    have hml : (madeS t).size = 12 := by rw [madeS_size, ← sb_len, headB_len hh]
    have C2 := Lib.hid (fun W => make_yes W t (by omega) hh)
    have HH := Lib.hid hh
    obtain ⟨m, hmm⟩ : ∃ m, m = madeS t := ⟨_, rfl⟩
    rw [← hmm] at hm hml C2
    have m0 : m.size ≤ 12 := by omega
    have m1 : 12 ≤ m.size := by omega
    have m2 : ((m.size : Int) != 12) = false := by simp; omega
    have hju : 0 ≤ (IntKind.u64.wrap a).tmod 12 ∧ (IntKind.u64.wrap a).tmod 12 < 12 := by
      have h := IntKind.wrap_u64 a
      have h0 : 0 ≤ IntKind.u64.wrap a := by rw [h]; omega
      rw [Int.tmod_eq_emod_of_nonneg h0]
      omega
    obtain ⟨j, hj⟩ : ∃ j : Nat, wrap64 ((IntKind.u64.wrap a).tmod 12) = (j : Int) ∧ j < 12 := by
      refine ⟨((IntKind.u64.wrap a).tmod 12).toNat, ?_, by omega⟩
      rw [IntWalk.wrap64_in _ ⟨by omega, by omega⟩]
      omega
    obtain ⟨hj, hj12⟩ := hj
    have hjm : j < m.size := by omega
    obtain ⟨cv, cw, hcv, hcp⟩ := str_free m
    obtain ⟨c, hc⟩ : ∃ c, c = (sb m).getD j 0 := ⟨_, rfl⟩
    have hcr := sb_range m j
    rw [← hc] at hcr
    obtain ⟨c0, c1⟩ := hcr
    have kc : ∀ W, (cw W).cell? ⟨W.heap.size, j, none⟩ = some (.int .u8 c) := fun W => by rw [hc]; exact (hcp W).2.1 j hjm
    have kf : ∀ W, (cw W).frozen? ⟨W.heap.size, j, none⟩ = false := fun W => (hcp W).2.2 j hjm
    obtain ⟨m', hm'⟩ : ∃ m', m' = mkStr ((sb m).set j b) := ⟨_, rfl⟩
    have kb : ∀ W, (convert 30 9 (.slice (some ⟨W.heap.size, 0, none⟩) m.size (cv W))).run Try.prog ((cw W).setCell ⟨W.heap.size, j, none⟩ (.int .u8 b)) = .ok (.string m') ((cw W).setCell ⟨W.heap.size, j, none⟩ (.int .u8 b)) := fun W => by
      rw [hm']
      exact bytes_turned m (cw W) W.heap.size j (cv W) b (hcp W).2.1 hjm
    have hsb : sb m' = (sb m).set j b := by
      rw [hm']
      refine sb_mkStr _ (fun x hx => ?_)
      rcases List.mem_or_eq_of_mem_set hx with hx | rfl
      · obtain ⟨i, hi, rfl⟩ := List.getElem_of_mem hx
        have h := sb_range m i
        rwa [List.getD_eq_getElem?_getD, List.getElem?_eq_getElem hi] at h
      · exact ⟨b0, b1⟩
    have hml' : m'.size ≤ 100000 := by rw [← sb_len, hsb, List.length_set, sb_len]; omega
    obtain ⟨v, hv⟩ : ∃ v, v = isinN (sb m') := ⟨_, rfl⟩
    have ci : ∀ W, Calls Try.prog 12 #[.string m'] W fun e w' => e = .returned (.int .i64 v) ∧ Below W.heap.size W w' := fun W => by
      rw [hv]; exact isin_any W m' hml'
    have CI := Lib.hid ci
    rw [hsb, hm] at hv
    rw [hm] at hc
    have hsame : c = b → v = 0 := fun e => by rw [hv]; exact turned_same hh j b (by rw [← hc]; exact e)
    have hother : 48 ≤ c → c ≤ 57 → 48 ≤ b → b ≤ 57 → c ≠ b → v = 11 := fun e1 e2 e3 e4 e5 => by
      rw [hv]
      exact turned_other hh j hj12 b (by rw [← hc]; exact (dgB_iff c).2 ⟨e1, e2⟩) ((dgB_iff b).2 ⟨e3, e4⟩) (by rw [← hc]; exact e5)
    have hfin : ∀ w2 w3 w4 : World, Below w.heap.size w w2 → Below ((cw w2).setCell ⟨w2.heap.size, j, none⟩ (.int .u8 b)).heap.size ((cw w2).setCell ⟨w2.heap.size, j, none⟩ (.int .u8 b)) w3 → Below w3.heap.size w3 w4 → Below w.heap.size w w4 := by
      intro w2 w3 w4 k2 k3 k4
      have e2 := k2.trans ((hcp w2).1.mono k2.size)
      have e3 := e2.setCell (p := ⟨w2.heap.size, j, none⟩) k2.size (.int .u8 b)
      have e4 := e3.trans (k3.mono e3.size)
      exact e4.trans (k4.mono e4.size)
    have HS := Lib.hid hsame
    have HO := Lib.hid hother
    have HF := Lib.hid hfin
    clear hh hml hmm hcp hm hc hm' hsb hml' hv ci hsame hother hfin hju
    by_cases hcb : c = b
    · subst hcb
      obtain rfl : v = 0 := HS.out rfl
      clear HS HO b0 b1
      rcases (by omega : c < 48 ∨ 57 < c ∨ (48 ≤ c ∧ c ≤ 57)) with k1 | k1 | ⟨k1, k2⟩
      all_goals
        go_enter Try.func4, Try.ntmps4
        go_wp2_with (first
          | (go_at_call 9; refine (C2.out _).mono ?_; rintro e w2 ⟨rfl, hb2⟩)
          | (go_at_call 12; refine (CI.out _).mono ?_; rintro e w3 ⟨rfl, hb3⟩)
          | (go_at_call 11; refine (known_any _).mono ?_; rintro e w4 ⟨rfl, hb4⟩))
        go_ret
        exact ⟨rfl, HF.out _ _ _ hb2 hb3 hb4⟩
    · have nb1 : (c == b) = false := by simpa using hcb
      have nb2 : (c != b) = true := by simpa using hcb
      rcases (by omega : c < 48 ∨ 57 < c ∨ (48 ≤ c ∧ c ≤ 57 ∧ b < 48) ∨ (48 ≤ c ∧ c ≤ 57 ∧ 57 < b) ∨ (48 ≤ c ∧ c ≤ 57 ∧ 48 ≤ b ∧ b ≤ 57)) with k1 | k1 | ⟨k1, k2, k3⟩ | ⟨k1, k2, k3⟩ | ⟨k1, k2, k3, k4⟩
      case inr.inr.inr.inr =>
        obtain rfl : v = 11 := HO.out k1 k2 k3 k4 hcb
        clear HS HO hcb
        go_enter Try.func4, Try.ntmps4
        go_wp2_with (first
          | (go_at_call 9; refine (C2.out _).mono ?_; rintro e w2 ⟨rfl, hb2⟩)
          | (go_at_call 12; refine (CI.out _).mono ?_; rintro e w3 ⟨rfl, hb3⟩)
          | (go_at_call 11; refine (known_any _).mono ?_; rintro e w4 ⟨rfl, hb4⟩))
        go_ret
        exact ⟨rfl, HF.out _ _ _ hb2 hb3 hb4⟩
      all_goals
        clear HS HO hcb
        go_enter Try.func4, Try.ntmps4
        go_wp2_with (first
          | (go_at_call 9; refine (C2.out _).mono ?_; rintro e w2 ⟨rfl, hb2⟩)
          | (go_at_call 12; refine (CI.out _).mono ?_; rintro e w3 ⟨rfl, hb3⟩)
          | (go_at_call 11; refine (known_any _).mono ?_; rintro e w4 ⟨rfl, hb4⟩))
        go_ret
        exact ⟨rfl, HF.out _ _ _ hb2 hb3 hb4⟩
end Go.Proofs.Ytcidbmkmnlneiaa.Id
