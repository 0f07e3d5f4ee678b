/-
  The law RosterHomes answers true: its walk. Conditions: none.
-/
import Derived.Test.YtkoihpfgleboiaaRLNew
import Derived.Test.YtkoihpfgleboiaaRMat2
import Derived.Test.YtkoihpfgleboiaaRSame
import Derived.Deep.RegionHeld3
namespace Go.Proofs.Ytkoihpfgleboiaa.Ro
open Go.RowKit Tb

/-! ### The members of the homes -/
theorem mem_memsL {k : Int} {M : List (ByteArray × Int)} {s : ByteArray} (h : s ∈ memsL k M) : (s, k) ∈ M := by
  unfold memsL at h
  obtain ⟨r, hr, rfl⟩ := List.mem_map.1 h
  obtain ⟨h1, h2⟩ := List.mem_filter.1 hr
  have : r.2 = k := by simpa using h2
  rw [← this]; exact h1
theorem memsL_look {k : Int} {M : List (ByteArray × Int)} (ha : asc M) {i : Nat} {s : ByteArray} (h : (memsL k M)[i]? = some s) : hasB M s = true ∧ Si.getL M s = k := by
  have hm := mem_memsL (List.mem_of_getElem? h)
  have hl := look_mem M ha _ hm
  simp only at hl
  exact ⟨(has_iff M s ha).2 ⟨k, hm⟩, by rw [get_look M ha, hl]; rfl⟩
theorem memsL_asc {k : Int} {M : List (ByteArray × Int)} (ha : asc M) {i : Nat} {s t : ByteArray} (h1 : (memsL k M)[i]? = some s) (h2 : (memsL k M)[i + 1]? = some t) : Op.bytesLess s.toList t.toList = true := by
  have hp : (memsL k M).Pairwise fun a b => Op.bytesLess a.toList b.toList = true := by
    unfold memsL
    rw [List.pairwise_map]
    exact List.Pairwise.filter _ ha
  have a1 := (List.getElem?_eq_some_iff.1 h1)
  have a2 := (List.getElem?_eq_some_iff.1 h2)
  have := List.pairwise_iff_getElem.1 hp i (i + 1) a1.1 a2.1 (Nat.lt_succ_self _)
  rw [a1.2, a2.2] at this
  exact this
/-- How many have a home below i. -/
def cnt (M : List (ByteArray × Int)) (i : Int) : Nat := (M.filter fun r => decide (r.2 < i)).length
theorem cnt_step (i : Int) : ∀ M : List (ByteArray × Int), cnt M (i + 1) = cnt M i + (memsL i M).length
  | [] => rfl
  | r :: M => by
    have ih := cnt_step i M
    unfold cnt memsL at *
    simp only [List.filter_cons, List.length_map] at *
    by_cases h1 : r.2 < i
    · have h2 : r.2 < i + 1 := by omega
      have h3 : ¬ r.2 = i := by omega
      simp [h1, h2, h3]; omega
    · by_cases h3 : r.2 = i
      · have h2 : r.2 < i + 1 := by omega
        rw [show decide (r.2 < i + 1) = true from decide_eq_true h2, show decide (r.2 < i) = false from decide_eq_false h1, show decide (r.2 = i) = true from decide_eq_true h3]
        simp; omega
      · have h2 : ¬ r.2 < i + 1 := by omega
        simp [h1, h2, h3]; omega
theorem cnt_zero {n : Int} {M : List (ByteArray × Int)} (h : ∀ r ∈ M, nodeB n r.2 = true) : cnt M 0 = 0 := by
  unfold cnt
  rw [List.length_eq_zero_iff, List.filter_eq_nil_iff]
  intro r hr
  have := (nodeB_ge (h r hr)).1
  simp; omega
theorem cnt_all {n : Int} {M : List (ByteArray × Int)} (h : ∀ r ∈ M, nodeB n r.2 = true) : cnt M n = M.length := by
  unfold cnt
  rw [List.filter_eq_self.2]
  intro r hr
  have := (nodeB_ge (h r hr)).2
  simp; omega
theorem Right.inM {n : Int} {ss : List ByteArray} {ms : List (ByteArray × Int)} (h : Right n ss ms) : ∀ r ∈ meL ms, nodeB n r.2 = true := fun r hr => by
  have hl := look_mem _ (meL_asc ms) r hr
  have hf := h.find r.1
  rw [hl] at hf
  cases hm : ms.find? fun m => decide (m.1 = r.1) with
  | none => rw [hm] at hf; cases hf
  | some m =>
    rw [hm] at hf
    have : m.2 = r.2 := by simpa using hf
    rw [← this]
    exact h.node m (List.mem_of_find?_eq_some hm)
theorem prL_all (k : Nat) : ∀ i : Nat, (prL (k : Int) i).length = if k < i then i - 1 else i
  | 0 => rfl
  | i + 1 => by
    rw [prL_step, List.length_append, prL_all k i]
    by_cases h : (i : Int) = k
    · have : i = k := by omega
      subst this
      simp
    · have : ¬ i = k := by omega
      rw [if_neg h]
      split <;> split <;> simp <;> omega
theorem peers_len {n k : Nat} (h : k < n) : (peersL (n : Int) (k : Int)).length = n - 1 := by
  unfold peersL
  rw [if_pos (by unfold nodeB; simp; omega), show ((n : Int)).toNat = n by omega, prL_all, if_pos h]

set_option maxRecDepth 100000 in
set_option maxHeartbeats 8000000 in
theorem law_homes_bad (w : World) (n : Int) (A : Option Addr) (c1 : Nat) (ss0 : List ByteArray) (B : Option Addr) (c2 : Nat) (ms0 : List (ByteArray × Int)) (hs0 : SRd w A ss0) (hm0 : MRd w B ms0) (hc1 : ss0.length ≤ c1) (hc2 : ms0.length ≤ c2) (hz : newE n (ss0.take 40) (ms0.take 70) ≠ 0) :
    Calls Try.prog 7 #[.agg #[.int .i64 n, .slice A ss0.length c1, .slice B ms0.length c2]] w fun e w' => e = .returned (.bool true) ∧ Below w.heap.size w w' := by
  obtain ⟨k1, h1⟩ : ∃ k, k = (ss0.take 40).length := ⟨_, rfl⟩
  obtain ⟨k2, h2⟩ : ∃ k, k = (ms0.take 70).length := ⟨_, rfl⟩
  obtain ⟨r, hr⟩ : ∃ r, r = newE n (ss0.take 40) (ms0.take 70) := ⟨_, rfl⟩
  rw [← hr] at hz
  have HB0 : Hid (Below w.heap.size w (w.alloc (.cells #[.int .i64 n, .slice A ss0.length c1, .slice B ms0.length c2] 25))) := (Below.refl _ _).alloc (Nat.le_refl _) _
  obtain ⟨⟨x0, x1, x2⟩, _⟩ := blk3 (block_new w (.cells #[.int .i64 n, .slice A ss0.length c1, .slice B ms0.length c2] 25))
  have HC : Hid (∀ W, Below w.heap.size w W → Calls Try.prog 10 #[.agg #[.int .i64 n, .slice A k1 c1, .slice B k2 c2]] W fun e w' => e = .returned (.int .i64 r) ∧ Below W.heap.size W w') := fun W hW => by
    have := rcheck_any W n A c1 (ss0.take 40) B c2 (ms0.take 70) ((srd_take hs0 40).below hW) ((mrd_take hm0 70).below hW) (Lib.hid hr)
    rw [← h1, ← h2] at this
    exact this
  have HT := Lib.hid (to_bad (w.alloc (.cells #[.int .i64 n, .slice A ss0.length c1, .slice B ms0.length c2] 25)) n A c1 ss0 B c2 ms0 (hs0.below HB0.out) (hm0.below HB0.out) hc1 hc2 h1 h2 hr hz)
  have e1 : (r != 0) = true := by simpa using hz
  clear hs0 hm0 hr h1 h2 hc1 hc2
  go_enter Try.func7, Try.ntmps7
  go_wp2_with (first
    | (go_at_call 8; refine HT.out.mono ?_; rintro e w1 ⟨rfl, hb⟩; have HB1 := Lib.hid ((HB0.out.trans (hb.mono HB0.out.size)).alloc (HB0.out.trans (hb.mono HB0.out.size)).size (.cells #[.int .i64 n, .slice A k1 c1, .slice B k2 c2] 25)); have HBN := Lib.hid (block_new w1 (.cells #[.int .i64 n, .slice A k1 c1, .slice B k2 c2] 25)); clear hb)
    | (go_at_call 9; refine (known_any _).mono ?_; rintro e w2 ⟨rfl, hb⟩; obtain ⟨⟨y0, y1, y2⟩, _⟩ := blk3 (block_kept HBN.out hb); have HB2 := Lib.hid (HB1.out.trans (hb.mono HB1.out.size)); clear hb)
    | (go_at_call 10; refine (HC.out _ HB2.out).mono ?_; rintro e w3 ⟨rfl, hb⟩; have HB3 := Lib.hid (HB2.out.trans (hb.mono HB2.out.size)); clear hb))
  go_ret
  exact ⟨rfl, HB3.out⟩

set_option maxRecDepth 100000 in
set_option maxHeartbeats 8000000 in
theorem law_homes_ok (w : World) (n : Int) (A : Option Addr) (c1 : Nat) (ss0 : List ByteArray) (B : Option Addr) (c2 : Nat) (ms0 : List (ByteArray × Int)) (hs0 : SRd w A ss0) (hm0 : MRd w B ms0) (hc1 : ss0.length ≤ c1) (hc2 : ms0.length ≤ c2) (hz : newE n (ss0.take 40) (ms0.take 70) = 0) :
    Calls Try.prog 7 #[.agg #[.int .i64 n, .slice A ss0.length c1, .slice B ms0.length c2]] w fun e w' => e = .returned (.bool true) ∧ Below w.heap.size w w' := by
  obtain ⟨k1, h1⟩ : ∃ k, k = (ss0.take 40).length := ⟨_, rfl⟩
  obtain ⟨k2, h2⟩ : ∃ k, k = (ms0.take 70).length := ⟨_, rfl⟩
  have hR := right_of hz
  have HB0 : Hid (Below w.heap.size w (w.alloc (.cells #[.int .i64 n, .slice A ss0.length c1, .slice B ms0.length c2] 25))) := (Below.refl _ _).alloc (Nat.le_refl _) _
  obtain ⟨⟨x0, x1, x2⟩, _⟩ := blk3 (block_new w (.cells #[.int .i64 n, .slice A ss0.length c1, .slice B ms0.length c2] 25))
  have HT := Lib.hid (to_ok (w.alloc (.cells #[.int .i64 n, .slice A ss0.length c1, .slice B ms0.length c2] 25)) n A c1 ss0 B c2 ms0 (hs0.below HB0.out) (hm0.below HB0.out) hc1 hc2 h1 h2 hz)
  obtain ⟨I, hI⟩ : ∃ I, I = isL (ss0.take 40) := ⟨_, rfl⟩
  obtain ⟨M, hM⟩ : ∃ M, M = meL (ms0.take 70) := ⟨_, rfl⟩
  have hIl : I.length = k1 := by rw [hI, h1]; exact hR.slen
  have hMl : M.length = k2 := by rw [hM, h2]; exact hR.mlen
  have hMa : asc M := by rw [hM]; exact meL_asc _
  have hIn : ∀ r ∈ M, nodeB n r.2 = true := by rw [hM]; exact hR.inM
  have hk1 : k1 ≤ 32 := by rw [h1]; exact hR.s32
  have hk2 : k2 ≤ 64 := by rw [h2]; exact hR.m64
  obtain ⟨N, rfl⟩ : ∃ N : Nat, n = (N : Int) := ⟨n.toNat, by have := hR.n1; omega⟩
  have hN3 : N ≤ 3 := by have := hR.n3; omega
  rw [← hI, ← hM] at HT
  have HMA := Lib.hid hMa
  have HIN := Lib.hid hIn
  have HML := Lib.hid hMl
  have HIL := Lib.hid hIl
  clear hs0 hm0 h1 h2 hc1 hc2 hR hz hI hM hIl hMl hMa hIn
  go_enter Try.func7, Try.ntmps7
  go_wp2_with (go_at_call 8; refine HT.out.mono ?_; rintro e w1 ⟨b, rfl, hS, hb⟩; have HS1 := Lib.hid hS; have HB1 := Lib.hid (HB0.out.trans (hb.mono HB0.out.size)); clear hS hb)
  have HBW : Hid (Below w1.heap.size w1 (w1.alloc (.cells #[.int .i64 (N : Int), .slice A k1 c1, .slice B k2 c2] 25))) := (Below.refl _ _).alloc (Nat.le_refl _) _
  have HBN := Lib.hid (block_new w1 (.cells #[.int .i64 (N : Int), .slice A k1 c1, .slice B k2 c2] 25))
  have HB2 : Hid (Below w.heap.size w (w1.alloc (.cells #[.int .i64 (N : Int), .slice A k1 c1, .slice B k2 c2] 25))) := HB1.out.trans (HBW.out.mono HB1.out.size)
  have HS2 := Lib.hid (HS1.out.below HBW.out)
  obtain ⟨W, hW⟩ : ∃ W, W = w1.alloc (.cells #[.int .i64 (N : Int), .slice A k1 c1, .slice B k2 c2] 25) := ⟨_, rfl⟩
  rw [← hW] at HBN HB2 HS2 ⊢
  have hc0 := cnt_zero HIN.out
  have HC0 := Lib.hid hc0
  clear hW HS1 HBW HB1 x0 x1 x2 hc0
  go_loopg [7, 6] N (fun (gh : Nat) si st wx => ∃ i : Nat, gh = N - i ∧ i ≤ N ∧ si = .int .i64 (i : Int) ∧ st = .int .i64 (cnt M (i : Int) : Int) ∧ Hid (Below W.heap.size W wx))
  case atStart => exact ⟨0, rfl, Nat.zero_le _, rfl, by rw [show ((0 : Nat) : Int) = 0 from rfl, HC0.out]; rfl, Below.refl _ _⟩
  case round =>
    clear HC0
    obtain ⟨i, rfl, hi, rfl, rfl, hinv⟩ := hrel
    obtain ⟨⟨y0, y1, y2⟩, _⟩ := blk3 (block_kept HBN.out hinv.out)
    by_cases hlt : i < N
    · have t1 : (i : Int) < (N : Int) := by omega
      have HMM := Lib.hid (members_any wr _ (N : Int) I M (i : Int) (.inr ⟨b, rfl, HS2.out.below hinv.out⟩) (by have := HML.out; omega))
      have HCS := Lib.hid (cnt_step (i : Int) M)
      have hLL : (memsL (i : Int) M).length ≤ 64 := by have := memsL_len (i : Int) M; have := HML.out; omega
      have hcl : cnt M (i : Int) ≤ 64 := by have := List.length_filter_le (fun r : ByteArray × Int => decide (r.2 < (i : Int))) M; have := HML.out; unfold cnt; omega
      obtain ⟨L, hL⟩ : ∃ L, L = memsL (i : Int) M := ⟨_, rfl⟩
      obtain ⟨ct, hct⟩ : ∃ ct, ct = cnt M (i : Int) := ⟨_, rfl⟩
      rw [← hL] at HMM HCS hLL
      rw [← hct] at HCS hcl ⊢
      have HLK : Hid (∀ j s, L[j]? = some s → hasB M s = true ∧ Si.getL M s = (i : Int)) := fun j s h => by rw [hL] at h; exact memsL_look HMA.out h
      have HLA : Hid (∀ (j : Nat) s t, L[j]? = some s → L[j + 1]? = some t → Op.bytesLess s.toList t.toList = true) := fun j s t h1 h2 => by rw [hL] at h1 h2; exact memsL_asc HMA.out h1 h2
      clear hL hct
      go_wp2_with (go_at_call 14; refine HMM.out.mono ?_; rintro e w2 ⟨v, rfl, ho, hb⟩; obtain ⟨A2, cap2, rfl, hr2⟩ := own_strs ho; have HR2 := Lib.hid hr2; have HB3 := Lib.hid (hinv.out.trans (hb.mono hinv.out.size)); clear ho hb hr2)
      clear y0 y1 y2
      go_loopg [9] L.length (fun (gh : Nat) sj wx => ∃ j : Nat, gh = L.length - j ∧ j ≤ L.length ∧ sj = .int .i64 (j : Int) ∧ Hid (Below w2.heap.size w2 wx))
      case atStart => exact ⟨0, rfl, Nat.zero_le _, rfl, Below.refl _ _⟩
      case round =>
        obtain ⟨j, rfl, hj, rfl, hinv2⟩ := hrel
        by_cases hjl : j < L.length
        · obtain ⟨s, hs⟩ : ∃ s, L[j]? = some s := ⟨_, List.getElem?_eq_getElem hjl⟩
          rcases HR2.out with h0 | ⟨g, o, rfl, hg, hcell⟩
          · rw [h0] at hs; simp at hs
          have d1 := (hinv2.out.cell (p := ⟨g, o + j, none⟩) hg).trans (hcell j s hs)
          have hlk := HLK.out j s hs
          have hH := home_any wr _ (N : Int) I M s (.inr ⟨b, rfl, HS2.out.below (HB3.out.trans (hinv2.out.mono HB3.out.size))⟩) HMA.out (by have := HML.out; omega)
          rw [hlk.1, hlk.2] at hH
          have HH : Hid (Calls Try.prog 12 #[.pointer (some ⟨b, 0, none⟩), .string s] wr fun e w' => e = .returned (.tuple #[.int .i64 (i : Int), .int .i64 0]) ∧ Below wr.heap.size wr w') := hH
          have t3 : (j : Int) < (L.length : Int) := by omega
          have t4 : (0 : Int) ≤ (j : Int) := by omega
          have HSJ := Lib.hid hs
          have HCELL := Lib.hid hcell
          clear hH hlk hs hcell
          rcases Nat.eq_zero_or_pos j with hj0 | hj0
          · subst hj0
            rw [Nat.add_zero] at d1
            go_wp2_with (go_at_call 12; refine HH.out.mono ?_; rintro e w3 ⟨rfl, hb3⟩; have HB4 := Lib.hid (hinv2.out.trans (hb3.mono hinv2.out.size)); clear hb3)
            go_quiet (fail)
            go_wp2
            go_roundg (L.length - (0 + 1))
            case measure => omega
            case rel => exact ⟨1, rfl, by omega, by go_num, below_drewN HB4.out _⟩
          · obtain ⟨m, rfl⟩ : ∃ m, j = m + 1 := ⟨j - 1, by omega⟩
            obtain ⟨s0, hs0⟩ : ∃ s0, L[m]? = some s0 := ⟨_, List.getElem?_eq_getElem (by omega)⟩
            have hls := HLA.out m s0 s hs0 HSJ.out
            have e9 : (0 : Int) < ((m : Int) + 1) := by omega
            have e10 : (0 : Int) ≤ (m : Int) := by omega
            have e11 : (m : Int) < (L.length : Int) := by omega
            have e12 : IntKind.i64.wrap (m : Int) = (m : Int) := by rw [IntKind.wrap_i64]; omega
            have e13 : (m : Int) + 1 - 1 = (m : Int) := by omega
            have HS0 := Lib.hid hs0
            clear hj0 hs0
            go_wp2_with (go_at_call 12; refine HH.out.mono ?_; rintro e w3 ⟨rfl, hb3⟩; have HB4 := Lib.hid (hinv2.out.trans (hb3.mono hinv2.out.size)); clear hb3)
            have d3 := (HB4.out.cell (p := ⟨g, o + (m + 1), none⟩) hg).trans (HCELL.out (m + 1) s HSJ.out)
            have d4 := (HB4.out.cell (p := ⟨g, o + m, none⟩) hg).trans (HCELL.out m s0 HS0.out)
            go_quiet (fail)
            go_wp2
            go_roundg (L.length - (m + 1 + 1))
            case measure => omega
            case rel => exact ⟨m + 1 + 1, rfl, by omega, by go_num, below_drewN HB4.out _⟩
        · obtain rfl : j = L.length := by omega
          have HB4 := Lib.hid (HB3.out.trans (hinv2.out.mono HB3.out.size))
          obtain ⟨N1, hN1⟩ : ∃ q, q = N - 1 := ⟨_, rfl⟩
          have HP : Hid (Calls Try.prog 22 #[.pointer (some ⟨b, 0, none⟩), .int .i64 (i : Int)] wr fun e w' => ∃ A3 c3, e = .returned (.slice A3 N1 c3) ∧ Below wr.heap.size wr w') := by
            refine (peers_any wr _ (N : Int) (i : Int) I M (.inr ⟨b, rfl, HS2.out.below HB4.out⟩) (by omega)).mono ?_
            rintro e w' ⟨v, rfl, ho, hb⟩
            obtain ⟨A3, c3, rfl, _⟩ := own_nums ho
            rw [peers_len hlt, ← hN1]
            exact ⟨A3, c3, rfl, hb⟩
          have e1 : (N1 : Int) = (N : Int) - 1 := by omega
          have e4 : (((N1 : Nat) : Int) != ((N : Int) - 1)) = false := by rw [e1]; simp
          clear hN1
          have e2 : IntKind.i64.wrap ((N : Int) - 1) = (N : Int) - 1 := by rw [IntKind.wrap_i64]; omega
          have e3 : (((N : Int) - 1) != ((N : Int) - 1)) = false := by simp
          have q2 : ((ct : Int) + (L.length : Int)) = ((ct + L.length : Nat) : Int) := by omega
          clear hinv2
          go_wp2_with (go_at_call 22; refine HP.out.mono ?_; rintro e w3 ⟨A3, c3, rfl, hb3⟩; dsimp only; have HB5 := Lib.hid (HB4.out.trans (hb3.mono HB4.out.size)); clear hb3; obtain ⟨⟨y0, y1, y2⟩, _⟩ := blk3 (block_kept HBN.out HB5.out))
          go_roundg (N - (i + 1))
          case measure => omega
          case rel => exact ⟨i + 1, rfl, by omega, by go_num, by rw [show ((i + 1 : Nat) : Int) = (i : Int) + 1 by omega, HCS.out]; go_num, HB5.out⟩
    · obtain rfl : i = N := by omega
      have hca := cnt_all HIN.out
      rw [HML.out] at hca
      rw [hca]
      have HW := Lib.hid hinv.out
      have HSR := Lib.hid (HS2.out.below hinv.out)
      have HIS : Hid (∀ W', Below wr.heap.size wr W' → Calls Try.prog 15 #[.pointer (some ⟨b, 0, none⟩)] W' fun e w' => ∃ A3 c3, e = .returned (.slice A3 k1 c3) ∧ Below W'.heap.size W' w') := fun W' hW' => by
        refine (isins_any W' _ (i : Int) I M (.inr ⟨b, rfl, HSR.out.below hW'⟩) (by have := HIL.out; omega)).mono ?_
        rintro e w' ⟨v, rfl, ho, hb⟩
        obtain ⟨A3, c3, rfl, _⟩ := own_strs ho
        rw [keysL_len, HIL.out]
        exact ⟨A3, c3, rfl, hb⟩
      have HX := Lib.hid (block_kept HBN.out hinv.out)
      have e1 : ((k2 : Int) == (k2 : Int)) = true := by simp
      have e2 : ((k1 : Int) == (k1 : Int)) = true := by simp
      have hd0 : Hid (Below wr.heap.size wr wr.drew) := (Below.refl _ _).drew
      have S0 : Hid (wr.drew.cell? ⟨w1.heap.size, 1, none⟩ = some (.slice A k1 c1) ∧ wr.drew.cell? ⟨w1.heap.size, 2, none⟩ = some (.slice B k2 c2)) := ⟨y1, y2⟩
      clear hca hinv
      go_upto_region 19 with fail
      go_region_held3 (fun w' => w'.cell? ⟨w1.heap.size, 1, none⟩ = some (.slice A k1 c1) ∧ w'.cell? ⟨w1.heap.size, 2, none⟩ = some (.slice B k2 c2)) (first | (with_reducible exact S0.out) | (with_reducible exact S1.out) | (with_reducible exact S2.out))
        (first
          | (go_at_call 9; (with_reducible refine (known_any _).mono ?_); rintro e w4 ⟨rfl, hb4⟩; have HK4 : Hid (Below wr.heap.size wr w4) := hd0.out.trans (hb4.mono hd0.out.size); have S1 := Lib.hid (blk3 (block_kept HX.out HK4.out)).1.2; clear hb4)
          | (go_at_call 15; (with_reducible refine (HIS.out _ HK4.out).mono ?_); rintro e w5 ⟨A3, c3, rfl, hb5⟩; have HK5 : Hid (Below wr.heap.size wr w5) := HK4.out.trans (hb5.mono HK4.out.size); have S2 := Lib.hid (blk3 (block_kept HX.out HK5.out)).1.2; clear hb5))
      go_wp2
      go_ret
      exact ⟨rfl, HB2.out.trans ((HW.out.trans (HK5.out.mono HW.out.size)).mono HB2.out.size)⟩
theorem law_homes (w : World) (v : Value) (h : RosIn w v) : Calls Try.prog 7 #[v] w fun e w' => e = .returned (.bool true) ∧ Below w.heap.size w w' := by
  obtain ⟨n, A, ss, c1, B, ms, c2, rfl, h1, h2, h3, h4, _⟩ := h
  by_cases hz : newE n (ss.take 40) (ms.take 70) = 0
  · exact law_homes_ok w n A c1 ss B c2 ms h1 h2 h3 h4 hz
  · exact law_homes_bad w n A c1 ss B c2 ms h1 h2 h3 h4 hz
end Go.Proofs.Ytkoihpfgleboiaa.Ro
