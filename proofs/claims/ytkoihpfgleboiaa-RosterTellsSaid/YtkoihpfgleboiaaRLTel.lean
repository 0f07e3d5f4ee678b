/-
  The law RosterTells answers true: its walk. Conditions: none.
-/
import Derived.Test.YtkoihpfgleboiaaRLNew
import Derived.Test.YtkoihpfgleboiaaRLHom
import Derived.Test.YtkoihpfgleboiaaROf
import Derived.Deep.RegionHeld3
namespace Go.Proofs.Ytkoihpfgleboiaa.Ro
open Go.RowKit Tb

theorem law_tells_bad (w : World) (n : Int) (A : Option Addr) (c1 : Nat) (ss0 : List ByteArray) (B : Option Addr) (c2 : Nat) (ms0 : List (ByteArray × Int)) (hs0 : SRd w A ss0) (hm0 : MRd w B ms0) (hc1 : ss0.length ≤ c1) (hc2 : ms0.length ≤ c2) (name isin : ByteArray) (node : Int) (hz : newE n (ss0.take 40) (ms0.take 70) ≠ 0) :
    Calls Try.prog 4 #[.agg #[.int .i64 n, .slice A ss0.length c1, .slice B ms0.length c2], .string name, .string isin, .int .i64 node] w fun e w' => e = .returned (.bool true) ∧ Below w.heap.size w w' := by
  obtain ⟨k1, h1⟩ : ∃ k, k = (ss0.take 40).length := ⟨_, rfl⟩
  obtain ⟨k2, h2⟩ : ∃ k, k = (ms0.take 70).length := ⟨_, rfl⟩
  obtain ⟨r, hr⟩ : ∃ r, r = newE n (ss0.take 40) (ms0.take 70) := ⟨_, rfl⟩
  rw [← hr] at hz
  have HB0 : Hid (Below w.heap.size w (w.alloc (.cells #[.int .i64 n, .slice A ss0.length c1, .slice B ms0.length c2] 25))) := (Below.refl _ _).alloc (Nat.le_refl _) _
  obtain ⟨⟨x0, x1, x2⟩, _⟩ := blk3 (block_new w (.cells #[.int .i64 n, .slice A ss0.length c1, .slice B ms0.length c2] 25))
  have HC : Hid (∀ W, Below w.heap.size w W → Calls Try.prog 10 #[.agg #[.int .i64 n, .slice A k1 c1, .slice B k2 c2]] W fun e w' => e = .returned (.int .i64 r) ∧ Below W.heap.size W w') := fun W hW => by
    have := rcheck_any W n A c1 (ss0.take 40) B c2 (ms0.take 70) ((srd_take hs0 40).below hW) ((mrd_take hm0 70).below hW) (Lib.hid hr)
    rw [← h1, ← h2] at this
    exact this
  have HT := Lib.hid (to_bad (w.alloc (.cells #[.int .i64 n, .slice A ss0.length c1, .slice B ms0.length c2] 25)) n A c1 ss0 B c2 ms0 (hs0.below HB0.out) (hm0.below HB0.out) hc1 hc2 h1 h2 hr hz)
  have e1 : (r != 0) = true := by simpa using hz
  clear hs0 hm0 hr h1 h2 hc1 hc2
  go_enter Try.func4, Try.ntmps4
  go_wp2_with (first
    | (go_at_call 8; refine HT.out.mono ?_; rintro e w1 ⟨rfl, hb⟩; have HB1 := Lib.hid ((HB0.out.trans (hb.mono HB0.out.size)).alloc (HB0.out.trans (hb.mono HB0.out.size)).size (.cells #[.int .i64 n, .slice A k1 c1, .slice B k2 c2] 25)); have HBN := Lib.hid (block_new w1 (.cells #[.int .i64 n, .slice A k1 c1, .slice B k2 c2] 25)); clear hb)
    | (go_at_call 9; refine (known_any _).mono ?_; rintro e w2 ⟨rfl, hb⟩; obtain ⟨⟨y0, y1, y2⟩, _⟩ := blk3 (block_kept HBN.out hb); have HB2 := Lib.hid (HB1.out.trans (hb.mono HB1.out.size)); clear hb)
    | (go_at_call 10; refine (HC.out _ HB2.out).mono ?_; rintro e w3 ⟨rfl, hb⟩; have HB3 := Lib.hid (HB2.out.trans (hb.mono HB2.out.size)); clear hb))
  go_ret
  exact ⟨rfl, HB3.out⟩


/-- The other CCPs, as the law gathers them. -/
theorem peersL_eq {N : Nat} {k : Int} (h : nodeB (N : Int) k = true) : peersL (N : Int) k = prL k N := by
  unfold peersL
  rw [if_pos h]
  congr 1
/-- What Home tells beside the reference's answer. -/
theorem home_case {n : Int} {ss : List ByteArray} {ms : List (ByteArray × Int)} (hR : Right n ss ms) (s : ByteArray) : (homeL ms s < 0 ∧ errB (hasB (meL ms) s) = 5 ∧ Si.getL (meL ms) s = 0) ∨ (¬ homeL ms s < 0 ∧ errB (hasB (meL ms) s) = 0 ∧ Si.getL (meL ms) s = homeL ms s) := by
  have h1 := hR.home s
  cases hb : hasB (meL ms) s
  · refine .inl ⟨(hR.neg s).2 hb, rfl, Si.getL_not (meL ms) s hb⟩
  · refine .inr ⟨fun h => ?_, rfl, ?_⟩
    · rw [(hR.neg s).1 h] at hb; cases hb
    · rw [h1, hb]; rfl

set_option maxRecDepth 100000 in
set_option maxHeartbeats 8000000 in
theorem law_tells_ok (w : World) (n : Int) (A : Option Addr) (c1 : Nat) (ss0 : List ByteArray) (B : Option Addr) (c2 : Nat) (ms0 : List (ByteArray × Int)) (hs0 : SRd w A ss0) (hm0 : MRd w B ms0) (hc1 : ss0.length ≤ c1) (hc2 : ms0.length ≤ c2) (name isin : ByteArray) (node : Int) (hz : newE n (ss0.take 40) (ms0.take 70) = 0) :
    Calls Try.prog 4 #[.agg #[.int .i64 n, .slice A ss0.length c1, .slice B ms0.length c2], .string name, .string isin, .int .i64 node] w fun e w' => e = .returned (.bool true) ∧ Below w.heap.size w w' := by
  obtain ⟨ss, hss⟩ : ∃ ss, ss = ss0.take 40 := ⟨_, rfl⟩
  obtain ⟨ms, hms⟩ : ∃ ms, ms = ms0.take 70 := ⟨_, rfl⟩
  have hR : Right n ss ms := by rw [hss, hms]; exact right_of hz
  have hLS : ss.Nodup ∧ (ms.map (·.1)).Nodup ∧ ∀ x, x ∈ meL ms ↔ x ∈ ms := by rw [hss, hms]; exact lists_of hz
  have HSS : Hid (SRd w A ss) := by rw [hss]; exact srd_take hs0 40
  have HMS : Hid (MRd w B ms) := by rw [hms]; exact mrd_take hm0 70
  have HB0 : Hid (Below w.heap.size w (w.alloc (.cells #[.int .i64 n, .slice A ss0.length c1, .slice B ms0.length c2] 25))) := (Below.refl _ _).alloc (Nat.le_refl _) _
  obtain ⟨⟨x0, x1, x2⟩, _⟩ := blk3 (block_new w (.cells #[.int .i64 n, .slice A ss0.length c1, .slice B ms0.length c2] 25))
  have HT := Lib.hid (to_ok (w.alloc (.cells #[.int .i64 n, .slice A ss0.length c1, .slice B ms0.length c2] 25)) n A c1 ss0 B c2 ms0 (hs0.below HB0.out) (hm0.below HB0.out) hc1 hc2 rfl rfl hz)
  rw [← hss, ← hms] at HT
  obtain ⟨I, hI⟩ : ∃ I, I = isL ss := ⟨_, rfl⟩
  obtain ⟨M, hM⟩ : ∃ M, M = meL ms := ⟨_, rfl⟩
  rw [← hI, ← hM] at HT
  obtain ⟨N, rfl⟩ : ∃ N : Nat, n = (N : Int) := ⟨n.toNat, by have := hR.n1; omega⟩
  have hN3 : N ≤ 3 := by have := hR.n3; omega
  have hMl : M.length ≤ 64 := by rw [hM, hR.mlen]; exact hR.m64
  have hIl : I.length ≤ 32 := by rw [hI, hR.slen]; exact hR.s32
  have hk1 : ss.length ≤ 32 := hR.s32
  have hk2 : ms.length ≤ 64 := hR.m64
  have HMA : Hid (asc M) := by rw [hM]; exact meL_asc _
  have HIA : Hid (asc I) := by rw [hI]; exact isL_asc _
  have HHA : Hid (hasL ss isin = hasB I isin) := by rw [hI]; exact has_eq ss isin
  have HMX : Hid (∀ W, Below w.heap.size w W → Calls Try.prog 17 #[.agg #[.int .i64 (N : Int), .slice A ss.length c1, .slice B ms.length c2], .int .i64 node] W fun e w' => ∃ v, e = .returned v ∧ w'.ownsRow W.heap.size 9 1 v (memsL node M).length (strs (memsL node M)) ∧ Below W.heap.size W w') := fun W hW => by
    have h1 := of_any W (N : Int) A c1 ss.length B c2 ms node (HMS.out.below hW) (by omega) (mems_nodup hLS.2.1 node)
    have h2 := of_eq hLS.2.2 node
    rw [← hM] at h2
    have h3 : (memsL node ms).length = (memsL node M).length := by
      rw [← h2, keysL_len]
      have := isL_lenD (dist_of (mems_nodup hLS.2.1 node)) (memsL node ms).length (Nat.le_refl _)
      rw [List.take_length] at this
      exact this.symm
    rw [h2, h3] at h1
    exact h1
  have HSX : Hid (∀ W, Below w.heap.size w W → Calls Try.prog 18 #[.slice A ss.length c1] W fun e w' => ∃ v, e = .returned v ∧ w'.ownsRow W.heap.size 9 1 v (keysL I).length (strs (keysL I)) ∧ Below W.heap.size W w') := fun W hW => by
    have h1 := sorted_any W A c1 ss (HSS.out.below hW) (by omega) (dist_of hLS.1)
    rw [← hI] at h1
    have h3 : ss.length = (keysL I).length := by rw [keysL_len, hI, hR.slen]
    rw [h3] at h1 ⊢
    exact h1
  obtain ⟨LI, hLI⟩ : ∃ L, L = keysL I := ⟨_, rfl⟩
  obtain ⟨LM, hLM⟩ : ∃ L, L = memsL node M := ⟨_, rfl⟩
  have HIX : Hid (∀ W b, RosS W b (N : Int) I M → Calls Try.prog 15 #[.pointer (some ⟨b, 0, none⟩)] W fun e w' => ∃ v, e = .returned v ∧ w'.ownsRow W.heap.size 9 1 v LI.length (strs LI) ∧ Below W.heap.size W w') := fun W b hS => by rw [hLI]; exact isins_any W _ (N : Int) I M (.inr ⟨b, rfl, hS⟩) (by omega)
  have HEX : Hid (∀ W b, RosS W b (N : Int) I M → Calls Try.prog 14 #[.pointer (some ⟨b, 0, none⟩), .int .i64 node] W fun e w' => ∃ v, e = .returned v ∧ w'.ownsRow W.heap.size 9 1 v LM.length (strs LM) ∧ Below W.heap.size W w') := fun W b hS => by rw [hLM]; exact members_any W _ (N : Int) I M node (.inr ⟨b, rfl, hS⟩) (by omega)
  have hli : LI.length ≤ 32 := by rw [hLI, keysL_len]; exact hIl
  have hlm : LM.length ≤ 64 := by rw [hLM]; exact Nat.le_trans (memsL_len node M) hMl
  rw [← hLI] at HSX
  rw [← hLM] at HMX
  clear hLI hLM
  obtain ⟨LP, hLP⟩ : ∃ L, L = peersL (N : Int) node := ⟨_, rfl⟩
  have HLP := Lib.hid hLP
  have hlp : LP.length ≤ 3 := by
    rw [hLP]
    unfold peersL
    split
    · have := prL_len node ((N : Int)).toNat; omega
    · simp
  have HPX : Hid (∀ W b, RosS W b (N : Int) I M → Calls Try.prog 22 #[.pointer (some ⟨b, 0, none⟩), .int .i64 node] W fun e w' => ∃ v, e = .returned v ∧ w'.ownsRow W.heap.size 3 1 v LP.length (nums LP) ∧ Below W.heap.size W w') := fun W b hS => by rw [hLP]; exact peers_any W _ (N : Int) node I M (.inr ⟨b, rfl, hS⟩) (by omega)
  obtain ⟨hi1, hhi1⟩ : ∃ h, h = hasB I isin := ⟨_, rfl⟩
  have HHX : Hid (∀ W b, RosS W b (N : Int) I M → Calls Try.prog 19 #[.pointer (some ⟨b, 0, none⟩), .string isin] W fun e w' => e = .returned (.bool hi1) ∧ Below W.heap.size W w') := fun W b hS => by rw [hhi1]; exact has_any W _ (N : Int) I M isin (.inr ⟨b, rfl, hS⟩) HIA.out (by omega)
  have HRX : Hid (∀ W, Below w.heap.size w W → Calls Try.prog 20 #[.agg #[.int .i64 (N : Int), .slice A ss.length c1, .slice B ms.length c2], .string isin] W fun e w' => e = .returned (.bool hi1) ∧ Below W.heap.size W w') := fun W hW => by
    rw [hhi1, ← HHA.out]
    exact rhas_any W (N : Int) A c1 ss B ms.length c2 isin (HSS.out.below hW) (by omega)
  clear hLP hhi1
  obtain ⟨hv, hhv⟩ : ∃ hv, hv = Si.getL M name := ⟨_, rfl⟩
  obtain ⟨fv, hfv⟩ : ∃ fv, fv = errB (hasB M name) := ⟨_, rfl⟩
  obtain ⟨wv, hwv⟩ : ∃ wv, wv = homeL ms name := ⟨_, rfl⟩
  have hcase := home_case hR name
  rw [← hM, ← hhv, ← hfv, ← hwv] at hcase
  have HHM : Hid (∀ W b, RosS W b (N : Int) I M → Calls Try.prog 12 #[.pointer (some ⟨b, 0, none⟩), .string name] W fun e w' => e = .returned (.tuple #[.int .i64 hv, .int .i64 fv]) ∧ Below W.heap.size W w') := fun W b hS => by
    have := home_any W _ (N : Int) I M name (.inr ⟨b, rfl, hS⟩) HMA.out (by omega)
    rw [← hhv, ← hfv] at this
    exact this
  have HRH : Hid (∀ W, Below w.heap.size w W → Calls Try.prog 13 #[.agg #[.int .i64 (N : Int), .slice A ss.length c1, .slice B ms.length c2], .string name] W fun e w' => e = .returned (.int .i64 wv) ∧ Below W.heap.size W w') := fun W hW => by
    rw [hwv]
    exact rhome_any W (N : Int) A c1 ss.length B c2 ms name (HMS.out.below hW) (by omega)
  clear hs0 hm0 hc1 hc2 hR hLS hz hI hM hss hms hhv hfv hwv
  rcases hcase with ⟨hw0, rfl, rfl⟩ | ⟨hw0, rfl, rfl⟩
  · go_enter Try.func4, Try.ntmps4
    go_wp2_with (first
      | (go_at_call 8; refine HT.out.mono ?_; rintro e w1 ⟨b, rfl, hS, hb⟩; have HB1 := Lib.hid (HB0.out.trans (hb.mono HB0.out.size)); have HBW : Hid (Below w1.heap.size w1 (w1.alloc (.cells #[.int .i64 (N : Int), .slice A ss.length c1, .slice B ms.length c2] 25))) := (Below.refl _ _).alloc (Nat.le_refl _) _; have HBN := Lib.hid (block_new w1 (.cells #[.int .i64 (N : Int), .slice A ss.length c1, .slice B ms.length c2] 25)); have HS2 := Lib.hid (hS.below HBW.out); have HB2 := Lib.hid (HB1.out.trans (HBW.out.mono HB1.out.size)); clear hS hb x0 x1 x2)
      | (go_at_call 12; refine (HHM.out _ b HS2.out).mono ?_; rintro e w3 ⟨rfl, hb3⟩; have HX3 := Lib.hid (block_kept HBN.out hb3); obtain ⟨⟨y0, y1, y2⟩, _⟩ := blk3 HX3.out; have HS3 := Lib.hid (HS2.out.below hb3); have HB3 := Lib.hid (HB2.out.trans (hb3.mono HB2.out.size)); clear hb3)
      | (go_at_call 13; refine (HRH.out _ HB3.out).mono ?_; rintro e w4 ⟨rfl, hb4⟩; have HX4 := Lib.hid (block_kept HX3.out hb4); have HS4 := Lib.hid (HS3.out.below hb4); have HB4 := Lib.hid (HB3.out.trans (hb4.mono HB3.out.size)); clear hb4 y0 y1 y2))
    obtain ⟨j0, hj0, jz0, jz1, jz2⟩ := info_parts infoI
    obtain ⟨q, hq⟩ : ∃ q, q = nodeB (N : Int) node := ⟨_, rfl⟩
    have HQ := Lib.hid hq
    obtain ⟨W, hW⟩ : ∃ W, W = w4 := ⟨_, rfl⟩
    subst hW
    clear HT HHM HRH hw0 hq
    go_loopg [16, 15] N (fun (gh : Nat) si sv wx => ∃ i : Nat, gh = N - i ∧ i ≤ N ∧ si = .int .i64 (i : Int) ∧ Hid (wx.ownsRow W.heap.size 3 1 sv (if q = true then prL node i else []).length (nums (if q = true then prL node i else [])) ∧ Below W.heap.size W wx))
    case atStart => exact ⟨0, rfl, Nat.zero_le _, rfl, by cases q <;> exact World.ownsRow_nil _ _ _ _, Below.refl _ _⟩
    case round =>
      obtain ⟨i, rfl, him, rfl, hinv⟩ := hrel
      have HR := Lib.hid hinv.out.1
      have HBK := Lib.hid hinv.out.2
      have hsz := hinv.out.2.size
      have HXK := Lib.hid (block_kept HX4.out hinv.out.2)
      obtain ⟨⟨y0, y1, y2⟩, _⟩ := blk3 HXK.out
      clear hinv
      cases q
      · have HPL : Hid (peersL (N : Int) node = []) := by show _ = _; unfold peersL; rw [← HQ.out]; rfl
        have HR0 : Hid (wr.ownsRow W.heap.size 3 1 u15 0 (nums [])) := HR.out
        clear HR
        by_cases hlt : i < N
        · have t1 : (i : Int) < (N : Int) := by omega
          by_cases hneg : node < 0
          · have t2 : ¬ (0 ≤ node) := by omega
            have HB5 := Lib.hid (HB4.out.trans (HBK.out.mono HB4.out.size))
            have HS5 := Lib.hid (HS4.out.below HBK.out)
            go_wp2_with (first
              | (go_at_call 14; refine (HEX.out wr b HS5.out).mono ?_; rintro e w6 ⟨v6, rfl, ho6, hb6⟩; obtain ⟨A6, c6, rfl, hr6⟩ := own_strs ho6; dsimp only; have HR6 := Lib.hid hr6; have HX6 := Lib.hid (block_kept HXK.out hb6); have HS6 := Lib.hid (HS5.out.below hb6); have HB6 := Lib.hid (HB5.out.trans (hb6.mono HB5.out.size)); have HN6 := Lib.hid (own_below HR0.out hb6); clear ho6 hb6 hr6)
              | (go_at_call 15; refine (HIX.out w6 b HS6.out).mono ?_; rintro e w7 ⟨v7, rfl, ho7, hb7⟩; have HO7 := Lib.hid ho7; obtain ⟨A7, c7, rfl, hr7⟩ := own_strs ho7; dsimp only; have HX7 := Lib.hid (block_kept HX6.out hb7); have HS7 := Lib.hid (HS6.out.below hb7); have HB7 := Lib.hid (HB6.out.trans (hb7.mono HB6.out.size)); have HN7 := Lib.hid (own_below HN6.out hb7); have HR7 := Lib.hid (HR6.out.below hb7); have HQ7 := Lib.hid hr7; have HK7 := Lib.hid hb7; obtain ⟨⟨z0, z1, z2⟩, _⟩ := blk3 HX7.out; clear ho7 hb7 hr7 y0 y1 y2)
              | (go_at_call 17; refine (HMX.out _ HB7.out).mono ?_; rintro e w8 ⟨v8, rfl, ho8, hb8⟩; obtain ⟨A8, c8, rfl, hr8⟩ := own_strs ho8; dsimp only; have HX8 := Lib.hid (block_kept HX7.out hb8); have HS8 := Lib.hid (HS7.out.below hb8); have HB8 := Lib.hid (HB7.out.trans (hb8.mono HB7.out.size)); have HN8 := Lib.hid (own_below HN7.out hb8); have HO8 := Lib.hid (own_below HO7.out hb8); have HQ8 := Lib.hid (HQ7.out.below hb8); have HK8 := Lib.hid (HK7.out.trans (hb8.mono HK7.out.size)); have HR8 := Lib.hid (HR7.out.below hb8); have HV8 := Lib.hid hr8; clear ho8 hb8 hr8 z0 z1 z2)
              | (go_at_call 16; refine (same_strs w10 A7 A10 c7 c10 LI HQ10.out HV10.out (by omega)).mono ?_; rintro e w11 ⟨rfl, hb11⟩; have HX11 := Lib.hid (block_kept HX10.out hb11); have HS11 := Lib.hid (HS10.out.below hb11); have HB11 := Lib.hid (HB10.out.trans (hb11.mono HB10.out.size)); have HN11 := Lib.hid (own_below HN10.out hb11); have HO11 := Lib.hid (own_below HO10.out hb11); have HQ11 := Lib.hid (HQ10.out.below hb11); have HK11 := Lib.hid (HK10.out.trans (hb11.mono HK10.out.size)); clear hb11)
              | (go_at_call 16; refine (same_strs w8 A6 A8 c6 c8 LM HR8.out HV8.out (by omega)).mono ?_; rintro e w9 ⟨rfl, hb9⟩; have HX9 := Lib.hid (block_kept HX8.out hb9); have HS9 := Lib.hid (HS8.out.below hb9); have HB9 := Lib.hid (HB8.out.trans (hb9.mono HB8.out.size)); have HN9 := Lib.hid (own_below HN8.out hb9); have HO9 := Lib.hid (own_below HO8.out hb9); have HQ9 := Lib.hid (HQ8.out.below hb9); have HK9 := Lib.hid (HK8.out.trans (hb9.mono HK8.out.size)); obtain ⟨⟨z0, z1, z2⟩, _⟩ := blk3 HX9.out; clear hb9)
              | (go_at_call 18; refine (HSX.out _ HB9.out).mono ?_; rintro e w10 ⟨v10, rfl, ho10, hb10⟩; obtain ⟨A10, c10, rfl, hr10⟩ := own_strs ho10; dsimp only; have HX10 := Lib.hid (block_kept HX9.out hb10); have HS10 := Lib.hid (HS9.out.below hb10); have HB10 := Lib.hid (HB9.out.trans (hb10.mono HB9.out.size)); have HN10 := Lib.hid (own_below HN9.out hb10); have HO10 := Lib.hid (own_below HO9.out hb10); have HQ10 := Lib.hid (HQ9.out.below hb10); have HK10 := Lib.hid (HK9.out.trans (hb10.mono HK9.out.size)); have HV10 := Lib.hid hr10; clear ho10 hb10 hr10 z0 z1 z2))
            go_loopg [19] LI.length (fun (gh : Nat) s19 wx => ∃ i2 : Nat, gh = LI.length - i2 ∧ i2 ≤ LI.length ∧ s19 = .int .i64 (i2 : Int) ∧ Hid (∃ xs, wx.ownsRow w6.heap.size 9 1 (.slice A7 LI.length c7) LI.length xs ∧ Below w6.heap.size w6 wx))
            case atStart => exact ⟨0, rfl, Nat.zero_le _, rfl, _, HO11.out, HK11.out⟩
            case round =>
              obtain ⟨i2, rfl, hi2, rfl, hinv2⟩ := hrel
              obtain ⟨xs, hxs, hbx⟩ := hinv2.out
              by_cases hlt2 : i2 < LI.length
              · rcases Go.Joins.ownsRow_forms hxs with ⟨e7, h0⟩ | ⟨gm, cm, e7⟩
                · omega
                simp only [Value.slice.injEq] at e7
                obtain ⟨rfl, _, rfl⟩ := e7
                have s1 : (i2 : Int) < (LI.length : Int) := by omega
                have s2 : (0 : Int) ≤ (i2 : Int) := by omega
                have hxl : xs.length = LI.length * 1 := hxs.1
                obtain ⟨y, hy⟩ : ∃ y, xs[i2]? = some y := ⟨_, List.getElem?_eq_getElem (by omega)⟩
                have cc : wr.cell? ⟨gm, i2, none⟩ = some y := (hxs.cellAt i2 (by omega)).trans hy
                have ff : wr.frozen? ⟨gm, i2, none⟩ = false := hxs.frozenAt _
                have NX : Hid (∃ xs, (wr.setCell ⟨gm, i2, none⟩ (.string { data := #[] })).ownsRow w6.heap.size 9 1 (.slice (some ⟨gm, 0, none⟩) LI.length c7) LI.length xs ∧ Below w6.heap.size w6 (wr.setCell ⟨gm, i2, none⟩ (.string { data := #[] }))) :=
                  ⟨_, (hxs.stored i2 (.string { data := #[] })).1, hbx.setCell (p := ⟨gm, i2, none⟩) (hxs.lt gm rfl).1 _⟩
                have HLT := Lib.hid hlt2
                clear hinv2 hxs hbx hy hxl hlt2
                go_wp2
                go_roundg (LI.length - (i2 + 1))
                case measure => have := HLT.out; omega
                case rel => exact ⟨i2 + 1, rfl, HLT.out, by go_num, NX⟩
              · obtain rfl : i2 = LI.length := by omega
                have HKX := Lib.hid hbx
                clear hinv2 hxs hbx
                have HKD : Hid (Below w6.heap.size w6 wr.drew) := HKX.out.drew
                have HX12 := Lib.hid (block_kept HX6.out HKD.out)
                have S12 := Lib.hid (blk3 HX12.out).1
                have HS12 := Lib.hid (HS6.out.below HKD.out)
                have HB12 := Lib.hid (HB6.out.trans (HKD.out.mono HB6.out.size))
                have HN12 : wr.drew.ownsRow W.heap.size 3 1 u15 LP.length (nums LP) := by rw [HLP.out, HPL.out]; exact own_below HN6.out HKD.out
                obtain ⟨AN, cN, rfl, hNR⟩ := own_nums HN12
                have HM12 := Lib.hid hNR
                have hle : (3 : Nat) ≤ 1000 := by omega
                have hle2 : (32 : Nat) ≤ 1000 := by omega
                have e9 : (hi1 == hi1) = true := by simp
                clear hNR HN12 HX7 HX8 HX9 HX10 HX11 HS7 HS8 HS9 HS10 HS11 HB7 HB8 HB9 HB10 HB11 HN6 HN7 HN8 HN9 HN10 HN11 HO7 HO8 HO9 HO10 HO11 HQ7 HQ8 HQ9 HQ10 HQ11 HK7 HK8 HK9 HK10 HK11 HR0
                go_upto_region 22 with fail
                go_region_held3 (fun w' => w'.cell? ⟨w1.heap.size, 0, none⟩ = some (.int .i64 (N : Int)) ∧ w'.cell? ⟨w1.heap.size, 1, none⟩ = some (.slice A ss.length c1) ∧ w'.cell? ⟨w1.heap.size, 2, none⟩ = some (.slice B ms.length c2)) (first | (with_reducible exact S12.out) | (with_reducible exact S13.out) | (with_reducible exact S14.out) | (with_reducible exact S15.out) | (with_reducible exact S16.out) | (with_reducible exact S17.out) | (with_reducible exact S18.out) | (with_reducible exact S19.out) | (with_reducible exact S20.out))
                  (first
                  | (go_at_call 9; (with_reducible refine (known_any _).mono ?_); rintro e w13 ⟨rfl, hb13⟩; have HX13 := Lib.hid (block_kept HX12.out hb13); have HS13 := Lib.hid (HS12.out.below hb13); have HB13 := Lib.hid (HB12.out.trans (hb13.mono HB12.out.size)); have HM13 := Lib.hid (HM12.out.below hb13); have S13 := Lib.hid (blk3 HX13.out).1; clear hb13)
                  | (go_at_call 19; (with_reducible refine (HHX.out w13 b HS13.out).mono ?_); rintro e w14 ⟨rfl, hb14⟩; have HX14 := Lib.hid (block_kept HX13.out hb14); have HS14 := Lib.hid (HS13.out.below hb14); have HB14 := Lib.hid (HB13.out.trans (hb14.mono HB13.out.size)); have HM14 := Lib.hid (HM13.out.below hb14); have S14 := Lib.hid (blk3 HX14.out).1; clear hb14)
                  | (go_at_call 20; (with_reducible refine (HRX.out w14 HB14.out).mono ?_); rintro e w15 ⟨rfl, hb15⟩; have HX15 := Lib.hid (block_kept HX14.out hb15); have HS15 := Lib.hid (HS14.out.below hb15); have HB15 := Lib.hid (HB14.out.trans (hb15.mono HB14.out.size)); have HM15 := Lib.hid (HM14.out.below hb15); have S15 := Lib.hid (blk3 HX15.out).1; clear hb15)
                  | (go_at_call 22; (with_reducible refine (HPX.out w15 b HS15.out).mono ?_); rintro e w16 ⟨v16, rfl, ho16, hb16⟩; obtain ⟨A16, c16, rfl, hr16⟩ := own_nums ho16; have HX16 := Lib.hid (block_kept HX15.out hb16); have HS16 := Lib.hid (HS15.out.below hb16); have HB16 := Lib.hid (HB15.out.trans (hb16.mono HB15.out.size)); have HM16 := Lib.hid (HM15.out.below hb16); have S16 := Lib.hid (blk3 HX16.out).1; have HV16 := Lib.hid hr16; clear hb16 ho16 hr16)
                  | (go_at_call 21; (with_reducible refine (same_nums w16 A16 AN c16 cN LP HV16.out HM16.out (Nat.le_trans hlp hle)).mono ?_); rintro e w17 ⟨rfl, hb17⟩; have HX17 := Lib.hid (block_kept HX16.out hb17); have HS17 := Lib.hid (HS16.out.below hb17); have HB17 := Lib.hid (HB16.out.trans (hb17.mono HB16.out.size)); have HM17 := Lib.hid (HM16.out.below hb17); have S17 := Lib.hid (blk3 HX17.out).1; clear hb17)
                  | (go_at_call 15; (with_reducible refine (HIX.out w17 b HS17.out).mono ?_); rintro e w18 ⟨v18, rfl, ho18, hb18⟩; obtain ⟨A18, c18, rfl, hr18⟩ := own_strs ho18; have HX18 := Lib.hid (block_kept HX17.out hb18); have HS18 := Lib.hid (HS17.out.below hb18); have HB18 := Lib.hid (HB17.out.trans (hb18.mono HB17.out.size)); have HM18 := Lib.hid (HM17.out.below hb18); have S18 := Lib.hid (blk3 HX18.out).1; have HV18 := Lib.hid hr18; clear hb18 ho18 hr18)
                  | (go_at_call 18; (with_reducible refine (HSX.out w18 HB18.out).mono ?_); rintro e w19 ⟨v19, rfl, ho19, hb19⟩; obtain ⟨A19, c19, rfl, hr19⟩ := own_strs ho19; have HX19 := Lib.hid (block_kept HX18.out hb19); have HS19 := Lib.hid (HS18.out.below hb19); have HB19 := Lib.hid (HB18.out.trans (hb19.mono HB18.out.size)); have HM19 := Lib.hid (HM18.out.below hb19); have S19 := Lib.hid (blk3 HX19.out).1; have HU19 := Lib.hid (HV18.out.below hb19); have HV19 := Lib.hid hr19; clear hb19 ho19 hr19)
                  | (go_at_call 16; (with_reducible refine (same_strs w19 A18 A19 c18 c19 LI HU19.out HV19.out (Nat.le_trans hli hle2)).mono ?_); rintro e w20 ⟨rfl, hb20⟩; have HX20 := Lib.hid (block_kept HX19.out hb20); have HS20 := Lib.hid (HS19.out.below hb20); have HB20 := Lib.hid (HB19.out.trans (hb20.mono HB19.out.size)); have HM20 := Lib.hid (HM19.out.below hb20); have S20 := Lib.hid (blk3 HX20.out).1; clear hb20))
                go_wp2
                go_ret
                exact ⟨rfl, HB20.out⟩
          · have t2 : 0 ≤ node := by omega
            have t3 : ¬ (node < (N : Int)) := fun h => by
              have := HQ.out
              unfold nodeB at this
              rw [decide_eq_true t2, decide_eq_true h] at this
              cases this
            have HB5 := Lib.hid (HB4.out.trans (HBK.out.mono HB4.out.size))
            have HS5 := Lib.hid (HS4.out.below HBK.out)
            go_wp2_with (first
              | (go_at_call 14; refine (HEX.out wr b HS5.out).mono ?_; rintro e w6 ⟨v6, rfl, ho6, hb6⟩; obtain ⟨A6, c6, rfl, hr6⟩ := own_strs ho6; dsimp only; have HR6 := Lib.hid hr6; have HX6 := Lib.hid (block_kept HXK.out hb6); have HS6 := Lib.hid (HS5.out.below hb6); have HB6 := Lib.hid (HB5.out.trans (hb6.mono HB5.out.size)); have HN6 := Lib.hid (own_below HR0.out hb6); clear ho6 hb6 hr6)
              | (go_at_call 15; refine (HIX.out w6 b HS6.out).mono ?_; rintro e w7 ⟨v7, rfl, ho7, hb7⟩; have HO7 := Lib.hid ho7; obtain ⟨A7, c7, rfl, hr7⟩ := own_strs ho7; dsimp only; have HX7 := Lib.hid (block_kept HX6.out hb7); have HS7 := Lib.hid (HS6.out.below hb7); have HB7 := Lib.hid (HB6.out.trans (hb7.mono HB6.out.size)); have HN7 := Lib.hid (own_below HN6.out hb7); have HR7 := Lib.hid (HR6.out.below hb7); have HQ7 := Lib.hid hr7; have HK7 := Lib.hid hb7; obtain ⟨⟨z0, z1, z2⟩, _⟩ := blk3 HX7.out; clear ho7 hb7 hr7 y0 y1 y2)
              | (go_at_call 17; refine (HMX.out _ HB7.out).mono ?_; rintro e w8 ⟨v8, rfl, ho8, hb8⟩; obtain ⟨A8, c8, rfl, hr8⟩ := own_strs ho8; dsimp only; have HX8 := Lib.hid (block_kept HX7.out hb8); have HS8 := Lib.hid (HS7.out.below hb8); have HB8 := Lib.hid (HB7.out.trans (hb8.mono HB7.out.size)); have HN8 := Lib.hid (own_below HN7.out hb8); have HO8 := Lib.hid (own_below HO7.out hb8); have HQ8 := Lib.hid (HQ7.out.below hb8); have HK8 := Lib.hid (HK7.out.trans (hb8.mono HK7.out.size)); have HR8 := Lib.hid (HR7.out.below hb8); have HV8 := Lib.hid hr8; clear ho8 hb8 hr8 z0 z1 z2)
              | (go_at_call 16; refine (same_strs w10 A7 A10 c7 c10 LI HQ10.out HV10.out (by omega)).mono ?_; rintro e w11 ⟨rfl, hb11⟩; have HX11 := Lib.hid (block_kept HX10.out hb11); have HS11 := Lib.hid (HS10.out.below hb11); have HB11 := Lib.hid (HB10.out.trans (hb11.mono HB10.out.size)); have HN11 := Lib.hid (own_below HN10.out hb11); have HO11 := Lib.hid (own_below HO10.out hb11); have HQ11 := Lib.hid (HQ10.out.below hb11); have HK11 := Lib.hid (HK10.out.trans (hb11.mono HK10.out.size)); clear hb11)
              | (go_at_call 16; refine (same_strs w8 A6 A8 c6 c8 LM HR8.out HV8.out (by omega)).mono ?_; rintro e w9 ⟨rfl, hb9⟩; have HX9 := Lib.hid (block_kept HX8.out hb9); have HS9 := Lib.hid (HS8.out.below hb9); have HB9 := Lib.hid (HB8.out.trans (hb9.mono HB8.out.size)); have HN9 := Lib.hid (own_below HN8.out hb9); have HO9 := Lib.hid (own_below HO8.out hb9); have HQ9 := Lib.hid (HQ8.out.below hb9); have HK9 := Lib.hid (HK8.out.trans (hb9.mono HK8.out.size)); obtain ⟨⟨z0, z1, z2⟩, _⟩ := blk3 HX9.out; clear hb9)
              | (go_at_call 18; refine (HSX.out _ HB9.out).mono ?_; rintro e w10 ⟨v10, rfl, ho10, hb10⟩; obtain ⟨A10, c10, rfl, hr10⟩ := own_strs ho10; dsimp only; have HX10 := Lib.hid (block_kept HX9.out hb10); have HS10 := Lib.hid (HS9.out.below hb10); have HB10 := Lib.hid (HB9.out.trans (hb10.mono HB9.out.size)); have HN10 := Lib.hid (own_below HN9.out hb10); have HO10 := Lib.hid (own_below HO9.out hb10); have HQ10 := Lib.hid (HQ9.out.below hb10); have HK10 := Lib.hid (HK9.out.trans (hb10.mono HK9.out.size)); have HV10 := Lib.hid hr10; clear ho10 hb10 hr10 z0 z1 z2))
            go_loopg [19] LI.length (fun (gh : Nat) s19 wx => ∃ i2 : Nat, gh = LI.length - i2 ∧ i2 ≤ LI.length ∧ s19 = .int .i64 (i2 : Int) ∧ Hid (∃ xs, wx.ownsRow w6.heap.size 9 1 (.slice A7 LI.length c7) LI.length xs ∧ Below w6.heap.size w6 wx))
            case atStart => exact ⟨0, rfl, Nat.zero_le _, rfl, _, HO11.out, HK11.out⟩
            case round =>
              obtain ⟨i2, rfl, hi2, rfl, hinv2⟩ := hrel
              obtain ⟨xs, hxs, hbx⟩ := hinv2.out
              by_cases hlt2 : i2 < LI.length
              · rcases Go.Joins.ownsRow_forms hxs with ⟨e7, h0⟩ | ⟨gm, cm, e7⟩
                · omega
                simp only [Value.slice.injEq] at e7
                obtain ⟨rfl, _, rfl⟩ := e7
                have s1 : (i2 : Int) < (LI.length : Int) := by omega
                have s2 : (0 : Int) ≤ (i2 : Int) := by omega
                have hxl : xs.length = LI.length * 1 := hxs.1
                obtain ⟨y, hy⟩ : ∃ y, xs[i2]? = some y := ⟨_, List.getElem?_eq_getElem (by omega)⟩
                have cc : wr.cell? ⟨gm, i2, none⟩ = some y := (hxs.cellAt i2 (by omega)).trans hy
                have ff : wr.frozen? ⟨gm, i2, none⟩ = false := hxs.frozenAt _
                have NX : Hid (∃ xs, (wr.setCell ⟨gm, i2, none⟩ (.string { data := #[] })).ownsRow w6.heap.size 9 1 (.slice (some ⟨gm, 0, none⟩) LI.length c7) LI.length xs ∧ Below w6.heap.size w6 (wr.setCell ⟨gm, i2, none⟩ (.string { data := #[] }))) :=
                  ⟨_, (hxs.stored i2 (.string { data := #[] })).1, hbx.setCell (p := ⟨gm, i2, none⟩) (hxs.lt gm rfl).1 _⟩
                have HLT := Lib.hid hlt2
                clear hinv2 hxs hbx hy hxl hlt2
                go_wp2
                go_roundg (LI.length - (i2 + 1))
                case measure => have := HLT.out; omega
                case rel => exact ⟨i2 + 1, rfl, HLT.out, by go_num, NX⟩
              · obtain rfl : i2 = LI.length := by omega
                have HKX := Lib.hid hbx
                clear hinv2 hxs hbx
                have HKD : Hid (Below w6.heap.size w6 wr.drew) := HKX.out.drew
                have HX12 := Lib.hid (block_kept HX6.out HKD.out)
                have S12 := Lib.hid (blk3 HX12.out).1
                have HS12 := Lib.hid (HS6.out.below HKD.out)
                have HB12 := Lib.hid (HB6.out.trans (HKD.out.mono HB6.out.size))
                have HN12 : wr.drew.ownsRow W.heap.size 3 1 u15 LP.length (nums LP) := by rw [HLP.out, HPL.out]; exact own_below HN6.out HKD.out
                obtain ⟨AN, cN, rfl, hNR⟩ := own_nums HN12
                have HM12 := Lib.hid hNR
                have hle : (3 : Nat) ≤ 1000 := by omega
                have hle2 : (32 : Nat) ≤ 1000 := by omega
                have e9 : (hi1 == hi1) = true := by simp
                clear hNR HN12 HX7 HX8 HX9 HX10 HX11 HS7 HS8 HS9 HS10 HS11 HB7 HB8 HB9 HB10 HB11 HN6 HN7 HN8 HN9 HN10 HN11 HO7 HO8 HO9 HO10 HO11 HQ7 HQ8 HQ9 HQ10 HQ11 HK7 HK8 HK9 HK10 HK11 HR0
                go_upto_region 22 with fail
                go_region_held3 (fun w' => w'.cell? ⟨w1.heap.size, 0, none⟩ = some (.int .i64 (N : Int)) ∧ w'.cell? ⟨w1.heap.size, 1, none⟩ = some (.slice A ss.length c1) ∧ w'.cell? ⟨w1.heap.size, 2, none⟩ = some (.slice B ms.length c2)) (first | (with_reducible exact S12.out) | (with_reducible exact S13.out) | (with_reducible exact S14.out) | (with_reducible exact S15.out) | (with_reducible exact S16.out) | (with_reducible exact S17.out) | (with_reducible exact S18.out) | (with_reducible exact S19.out) | (with_reducible exact S20.out))
                  (first
                  | (go_at_call 9; (with_reducible refine (known_any _).mono ?_); rintro e w13 ⟨rfl, hb13⟩; have HX13 := Lib.hid (block_kept HX12.out hb13); have HS13 := Lib.hid (HS12.out.below hb13); have HB13 := Lib.hid (HB12.out.trans (hb13.mono HB12.out.size)); have HM13 := Lib.hid (HM12.out.below hb13); have S13 := Lib.hid (blk3 HX13.out).1; clear hb13)
                  | (go_at_call 19; (with_reducible refine (HHX.out w13 b HS13.out).mono ?_); rintro e w14 ⟨rfl, hb14⟩; have HX14 := Lib.hid (block_kept HX13.out hb14); have HS14 := Lib.hid (HS13.out.below hb14); have HB14 := Lib.hid (HB13.out.trans (hb14.mono HB13.out.size)); have HM14 := Lib.hid (HM13.out.below hb14); have S14 := Lib.hid (blk3 HX14.out).1; clear hb14)
                  | (go_at_call 20; (with_reducible refine (HRX.out w14 HB14.out).mono ?_); rintro e w15 ⟨rfl, hb15⟩; have HX15 := Lib.hid (block_kept HX14.out hb15); have HS15 := Lib.hid (HS14.out.below hb15); have HB15 := Lib.hid (HB14.out.trans (hb15.mono HB14.out.size)); have HM15 := Lib.hid (HM14.out.below hb15); have S15 := Lib.hid (blk3 HX15.out).1; clear hb15)
                  | (go_at_call 22; (with_reducible refine (HPX.out w15 b HS15.out).mono ?_); rintro e w16 ⟨v16, rfl, ho16, hb16⟩; obtain ⟨A16, c16, rfl, hr16⟩ := own_nums ho16; have HX16 := Lib.hid (block_kept HX15.out hb16); have HS16 := Lib.hid (HS15.out.below hb16); have HB16 := Lib.hid (HB15.out.trans (hb16.mono HB15.out.size)); have HM16 := Lib.hid (HM15.out.below hb16); have S16 := Lib.hid (blk3 HX16.out).1; have HV16 := Lib.hid hr16; clear hb16 ho16 hr16)
                  | (go_at_call 21; (with_reducible refine (same_nums w16 A16 AN c16 cN LP HV16.out HM16.out (Nat.le_trans hlp hle)).mono ?_); rintro e w17 ⟨rfl, hb17⟩; have HX17 := Lib.hid (block_kept HX16.out hb17); have HS17 := Lib.hid (HS16.out.below hb17); have HB17 := Lib.hid (HB16.out.trans (hb17.mono HB16.out.size)); have HM17 := Lib.hid (HM16.out.below hb17); have S17 := Lib.hid (blk3 HX17.out).1; clear hb17)
                  | (go_at_call 15; (with_reducible refine (HIX.out w17 b HS17.out).mono ?_); rintro e w18 ⟨v18, rfl, ho18, hb18⟩; obtain ⟨A18, c18, rfl, hr18⟩ := own_strs ho18; have HX18 := Lib.hid (block_kept HX17.out hb18); have HS18 := Lib.hid (HS17.out.below hb18); have HB18 := Lib.hid (HB17.out.trans (hb18.mono HB17.out.size)); have HM18 := Lib.hid (HM17.out.below hb18); have S18 := Lib.hid (blk3 HX18.out).1; have HV18 := Lib.hid hr18; clear hb18 ho18 hr18)
                  | (go_at_call 18; (with_reducible refine (HSX.out w18 HB18.out).mono ?_); rintro e w19 ⟨v19, rfl, ho19, hb19⟩; obtain ⟨A19, c19, rfl, hr19⟩ := own_strs ho19; have HX19 := Lib.hid (block_kept HX18.out hb19); have HS19 := Lib.hid (HS18.out.below hb19); have HB19 := Lib.hid (HB18.out.trans (hb19.mono HB18.out.size)); have HM19 := Lib.hid (HM18.out.below hb19); have S19 := Lib.hid (blk3 HX19.out).1; have HU19 := Lib.hid (HV18.out.below hb19); have HV19 := Lib.hid hr19; clear hb19 ho19 hr19)
                  | (go_at_call 16; (with_reducible refine (same_strs w19 A18 A19 c18 c19 LI HU19.out HV19.out (Nat.le_trans hli hle2)).mono ?_); rintro e w20 ⟨rfl, hb20⟩; have HX20 := Lib.hid (block_kept HX19.out hb20); have HS20 := Lib.hid (HS19.out.below hb20); have HB20 := Lib.hid (HB19.out.trans (hb20.mono HB19.out.size)); have HM20 := Lib.hid (HM19.out.below hb20); have S20 := Lib.hid (blk3 HX20.out).1; clear hb20))
                go_wp2
                go_ret
                exact ⟨rfl, HB20.out⟩
        · have t1 : ¬ ((i : Int) < (N : Int)) := by omega
          have HB5 := Lib.hid (HB4.out.trans (HBK.out.mono HB4.out.size))
          have HS5 := Lib.hid (HS4.out.below HBK.out)
          go_wp2_with (first
            | (go_at_call 14; refine (HEX.out wr b HS5.out).mono ?_; rintro e w6 ⟨v6, rfl, ho6, hb6⟩; obtain ⟨A6, c6, rfl, hr6⟩ := own_strs ho6; dsimp only; have HR6 := Lib.hid hr6; have HX6 := Lib.hid (block_kept HXK.out hb6); have HS6 := Lib.hid (HS5.out.below hb6); have HB6 := Lib.hid (HB5.out.trans (hb6.mono HB5.out.size)); have HN6 := Lib.hid (own_below HR0.out hb6); clear ho6 hb6 hr6)
            | (go_at_call 15; refine (HIX.out w6 b HS6.out).mono ?_; rintro e w7 ⟨v7, rfl, ho7, hb7⟩; have HO7 := Lib.hid ho7; obtain ⟨A7, c7, rfl, hr7⟩ := own_strs ho7; dsimp only; have HX7 := Lib.hid (block_kept HX6.out hb7); have HS7 := Lib.hid (HS6.out.below hb7); have HB7 := Lib.hid (HB6.out.trans (hb7.mono HB6.out.size)); have HN7 := Lib.hid (own_below HN6.out hb7); have HR7 := Lib.hid (HR6.out.below hb7); have HQ7 := Lib.hid hr7; have HK7 := Lib.hid hb7; obtain ⟨⟨z0, z1, z2⟩, _⟩ := blk3 HX7.out; clear ho7 hb7 hr7 y0 y1 y2)
            | (go_at_call 17; refine (HMX.out _ HB7.out).mono ?_; rintro e w8 ⟨v8, rfl, ho8, hb8⟩; obtain ⟨A8, c8, rfl, hr8⟩ := own_strs ho8; dsimp only; have HX8 := Lib.hid (block_kept HX7.out hb8); have HS8 := Lib.hid (HS7.out.below hb8); have HB8 := Lib.hid (HB7.out.trans (hb8.mono HB7.out.size)); have HN8 := Lib.hid (own_below HN7.out hb8); have HO8 := Lib.hid (own_below HO7.out hb8); have HQ8 := Lib.hid (HQ7.out.below hb8); have HK8 := Lib.hid (HK7.out.trans (hb8.mono HK7.out.size)); have HR8 := Lib.hid (HR7.out.below hb8); have HV8 := Lib.hid hr8; clear ho8 hb8 hr8 z0 z1 z2)
            | (go_at_call 16; refine (same_strs w10 A7 A10 c7 c10 LI HQ10.out HV10.out (by omega)).mono ?_; rintro e w11 ⟨rfl, hb11⟩; have HX11 := Lib.hid (block_kept HX10.out hb11); have HS11 := Lib.hid (HS10.out.below hb11); have HB11 := Lib.hid (HB10.out.trans (hb11.mono HB10.out.size)); have HN11 := Lib.hid (own_below HN10.out hb11); have HO11 := Lib.hid (own_below HO10.out hb11); have HQ11 := Lib.hid (HQ10.out.below hb11); have HK11 := Lib.hid (HK10.out.trans (hb11.mono HK10.out.size)); clear hb11)
            | (go_at_call 16; refine (same_strs w8 A6 A8 c6 c8 LM HR8.out HV8.out (by omega)).mono ?_; rintro e w9 ⟨rfl, hb9⟩; have HX9 := Lib.hid (block_kept HX8.out hb9); have HS9 := Lib.hid (HS8.out.below hb9); have HB9 := Lib.hid (HB8.out.trans (hb9.mono HB8.out.size)); have HN9 := Lib.hid (own_below HN8.out hb9); have HO9 := Lib.hid (own_below HO8.out hb9); have HQ9 := Lib.hid (HQ8.out.below hb9); have HK9 := Lib.hid (HK8.out.trans (hb9.mono HK8.out.size)); obtain ⟨⟨z0, z1, z2⟩, _⟩ := blk3 HX9.out; clear hb9)
            | (go_at_call 18; refine (HSX.out _ HB9.out).mono ?_; rintro e w10 ⟨v10, rfl, ho10, hb10⟩; obtain ⟨A10, c10, rfl, hr10⟩ := own_strs ho10; dsimp only; have HX10 := Lib.hid (block_kept HX9.out hb10); have HS10 := Lib.hid (HS9.out.below hb10); have HB10 := Lib.hid (HB9.out.trans (hb10.mono HB9.out.size)); have HN10 := Lib.hid (own_below HN9.out hb10); have HO10 := Lib.hid (own_below HO9.out hb10); have HQ10 := Lib.hid (HQ9.out.below hb10); have HK10 := Lib.hid (HK9.out.trans (hb10.mono HK9.out.size)); have HV10 := Lib.hid hr10; clear ho10 hb10 hr10 z0 z1 z2))
          go_loopg [19] LI.length (fun (gh : Nat) s19 wx => ∃ i2 : Nat, gh = LI.length - i2 ∧ i2 ≤ LI.length ∧ s19 = .int .i64 (i2 : Int) ∧ Hid (∃ xs, wx.ownsRow w6.heap.size 9 1 (.slice A7 LI.length c7) LI.length xs ∧ Below w6.heap.size w6 wx))
          case atStart => exact ⟨0, rfl, Nat.zero_le _, rfl, _, HO11.out, HK11.out⟩
          case round =>
            obtain ⟨i2, rfl, hi2, rfl, hinv2⟩ := hrel
            obtain ⟨xs, hxs, hbx⟩ := hinv2.out
            by_cases hlt2 : i2 < LI.length
            · rcases Go.Joins.ownsRow_forms hxs with ⟨e7, h0⟩ | ⟨gm, cm, e7⟩
              · omega
              simp only [Value.slice.injEq] at e7
              obtain ⟨rfl, _, rfl⟩ := e7
              have s1 : (i2 : Int) < (LI.length : Int) := by omega
              have s2 : (0 : Int) ≤ (i2 : Int) := by omega
              have hxl : xs.length = LI.length * 1 := hxs.1
              obtain ⟨y, hy⟩ : ∃ y, xs[i2]? = some y := ⟨_, List.getElem?_eq_getElem (by omega)⟩
              have cc : wr.cell? ⟨gm, i2, none⟩ = some y := (hxs.cellAt i2 (by omega)).trans hy
              have ff : wr.frozen? ⟨gm, i2, none⟩ = false := hxs.frozenAt _
              have NX : Hid (∃ xs, (wr.setCell ⟨gm, i2, none⟩ (.string { data := #[] })).ownsRow w6.heap.size 9 1 (.slice (some ⟨gm, 0, none⟩) LI.length c7) LI.length xs ∧ Below w6.heap.size w6 (wr.setCell ⟨gm, i2, none⟩ (.string { data := #[] }))) :=
                ⟨_, (hxs.stored i2 (.string { data := #[] })).1, hbx.setCell (p := ⟨gm, i2, none⟩) (hxs.lt gm rfl).1 _⟩
              have HLT := Lib.hid hlt2
              clear hinv2 hxs hbx hy hxl hlt2
              go_wp2
              go_roundg (LI.length - (i2 + 1))
              case measure => have := HLT.out; omega
              case rel => exact ⟨i2 + 1, rfl, HLT.out, by go_num, NX⟩
            · obtain rfl : i2 = LI.length := by omega
              have HKX := Lib.hid hbx
              clear hinv2 hxs hbx
              have HKD : Hid (Below w6.heap.size w6 wr.drew) := HKX.out.drew
              have HX12 := Lib.hid (block_kept HX6.out HKD.out)
              have S12 := Lib.hid (blk3 HX12.out).1
              have HS12 := Lib.hid (HS6.out.below HKD.out)
              have HB12 := Lib.hid (HB6.out.trans (HKD.out.mono HB6.out.size))
              have HN12 : wr.drew.ownsRow W.heap.size 3 1 u15 LP.length (nums LP) := by rw [HLP.out, HPL.out]; exact own_below HN6.out HKD.out
              obtain ⟨AN, cN, rfl, hNR⟩ := own_nums HN12
              have HM12 := Lib.hid hNR
              have hle : (3 : Nat) ≤ 1000 := by omega
              have hle2 : (32 : Nat) ≤ 1000 := by omega
              have e9 : (hi1 == hi1) = true := by simp
              clear hNR HN12 HX7 HX8 HX9 HX10 HX11 HS7 HS8 HS9 HS10 HS11 HB7 HB8 HB9 HB10 HB11 HN6 HN7 HN8 HN9 HN10 HN11 HO7 HO8 HO9 HO10 HO11 HQ7 HQ8 HQ9 HQ10 HQ11 HK7 HK8 HK9 HK10 HK11 HR0
              go_upto_region 22 with fail
              go_region_held3 (fun w' => w'.cell? ⟨w1.heap.size, 0, none⟩ = some (.int .i64 (N : Int)) ∧ w'.cell? ⟨w1.heap.size, 1, none⟩ = some (.slice A ss.length c1) ∧ w'.cell? ⟨w1.heap.size, 2, none⟩ = some (.slice B ms.length c2)) (first | (with_reducible exact S12.out) | (with_reducible exact S13.out) | (with_reducible exact S14.out) | (with_reducible exact S15.out) | (with_reducible exact S16.out) | (with_reducible exact S17.out) | (with_reducible exact S18.out) | (with_reducible exact S19.out) | (with_reducible exact S20.out))
                (first
                | (go_at_call 9; (with_reducible refine (known_any _).mono ?_); rintro e w13 ⟨rfl, hb13⟩; have HX13 := Lib.hid (block_kept HX12.out hb13); have HS13 := Lib.hid (HS12.out.below hb13); have HB13 := Lib.hid (HB12.out.trans (hb13.mono HB12.out.size)); have HM13 := Lib.hid (HM12.out.below hb13); have S13 := Lib.hid (blk3 HX13.out).1; clear hb13)
                | (go_at_call 19; (with_reducible refine (HHX.out w13 b HS13.out).mono ?_); rintro e w14 ⟨rfl, hb14⟩; have HX14 := Lib.hid (block_kept HX13.out hb14); have HS14 := Lib.hid (HS13.out.below hb14); have HB14 := Lib.hid (HB13.out.trans (hb14.mono HB13.out.size)); have HM14 := Lib.hid (HM13.out.below hb14); have S14 := Lib.hid (blk3 HX14.out).1; clear hb14)
                | (go_at_call 20; (with_reducible refine (HRX.out w14 HB14.out).mono ?_); rintro e w15 ⟨rfl, hb15⟩; have HX15 := Lib.hid (block_kept HX14.out hb15); have HS15 := Lib.hid (HS14.out.below hb15); have HB15 := Lib.hid (HB14.out.trans (hb15.mono HB14.out.size)); have HM15 := Lib.hid (HM14.out.below hb15); have S15 := Lib.hid (blk3 HX15.out).1; clear hb15)
                | (go_at_call 22; (with_reducible refine (HPX.out w15 b HS15.out).mono ?_); rintro e w16 ⟨v16, rfl, ho16, hb16⟩; obtain ⟨A16, c16, rfl, hr16⟩ := own_nums ho16; have HX16 := Lib.hid (block_kept HX15.out hb16); have HS16 := Lib.hid (HS15.out.below hb16); have HB16 := Lib.hid (HB15.out.trans (hb16.mono HB15.out.size)); have HM16 := Lib.hid (HM15.out.below hb16); have S16 := Lib.hid (blk3 HX16.out).1; have HV16 := Lib.hid hr16; clear hb16 ho16 hr16)
                | (go_at_call 21; (with_reducible refine (same_nums w16 A16 AN c16 cN LP HV16.out HM16.out (Nat.le_trans hlp hle)).mono ?_); rintro e w17 ⟨rfl, hb17⟩; have HX17 := Lib.hid (block_kept HX16.out hb17); have HS17 := Lib.hid (HS16.out.below hb17); have HB17 := Lib.hid (HB16.out.trans (hb17.mono HB16.out.size)); have HM17 := Lib.hid (HM16.out.below hb17); have S17 := Lib.hid (blk3 HX17.out).1; clear hb17)
                | (go_at_call 15; (with_reducible refine (HIX.out w17 b HS17.out).mono ?_); rintro e w18 ⟨v18, rfl, ho18, hb18⟩; obtain ⟨A18, c18, rfl, hr18⟩ := own_strs ho18; have HX18 := Lib.hid (block_kept HX17.out hb18); have HS18 := Lib.hid (HS17.out.below hb18); have HB18 := Lib.hid (HB17.out.trans (hb18.mono HB17.out.size)); have HM18 := Lib.hid (HM17.out.below hb18); have S18 := Lib.hid (blk3 HX18.out).1; have HV18 := Lib.hid hr18; clear hb18 ho18 hr18)
                | (go_at_call 18; (with_reducible refine (HSX.out w18 HB18.out).mono ?_); rintro e w19 ⟨v19, rfl, ho19, hb19⟩; obtain ⟨A19, c19, rfl, hr19⟩ := own_strs ho19; have HX19 := Lib.hid (block_kept HX18.out hb19); have HS19 := Lib.hid (HS18.out.below hb19); have HB19 := Lib.hid (HB18.out.trans (hb19.mono HB18.out.size)); have HM19 := Lib.hid (HM18.out.below hb19); have S19 := Lib.hid (blk3 HX19.out).1; have HU19 := Lib.hid (HV18.out.below hb19); have HV19 := Lib.hid hr19; clear hb19 ho19 hr19)
                | (go_at_call 16; (with_reducible refine (same_strs w19 A18 A19 c18 c19 LI HU19.out HV19.out (Nat.le_trans hli hle2)).mono ?_); rintro e w20 ⟨rfl, hb20⟩; have HX20 := Lib.hid (block_kept HX19.out hb20); have HS20 := Lib.hid (HS19.out.below hb20); have HB20 := Lib.hid (HB19.out.trans (hb20.mono HB19.out.size)); have HM20 := Lib.hid (HM19.out.below hb20); have S20 := Lib.hid (blk3 HX20.out).1; clear hb20))
              go_wp2
              go_ret
              exact ⟨rfl, HB20.out⟩
      · obtain ⟨k1, k2⟩ := nodeB_ge HQ.out.symm
        have HR0 : Hid (wr.ownsRow W.heap.size 3 1 u15 (prL node i).length (nums (prL node i))) := HR.out
        clear HR
        by_cases hlt : i < N
        · have t1 : (i : Int) < (N : Int) := by omega
          have hlen := prL_len node i
          have hst := prL_step node i
          obtain ⟨nn, hnn⟩ : ∃ nn, nn = (prL node i).length := ⟨_, rfl⟩
          rw [← hnn] at HR0 hlen
          have HNN := Lib.hid hnn
          clear hnn
          by_cases hik : (i : Int) = node
          · rw [if_pos hik, List.append_nil] at hst
            have HST := Lib.hid hst
            have hne : ((i : Int) != node) = false := by simpa using hik
            clear hst hik
            go_wp2
            go_roundg (N - (i + 1))
            case measure => omega
            case rel => exact ⟨i + 1, rfl, by omega, by go_num, by simp only [if_true]; rw [HST.out, ← HNN.out]; exact HR0.out, HBK.out⟩
          · rw [if_neg hik] at hst
            have HST := Lib.hid hst
            have hne : ((i : Int) != node) = true := by simpa using hik
            clear hst hik
            go_wp2_with (at_builtin; refine wpList_append_own _ rfl _ _ 37 rfl W.heap.size 3 j0 (.int .i64 0) 1 8 Try.underlying37 hj0 jz0 jz1 jz2 rfl (by decide) _ _ _ rfl (HR0.out.alloc _) ⟨wr.heap.size, 0, none⟩ 1 1 [.int .i64 (i : Int)] rfl rfl (one_new _ _ _) (by simp [Value.oneCell']) (by unfold maxLen; omega) (by omega) (by simp; omega) ?_; intro v' w2 hown' hgrow hnil)
            have hb2 : Below W.heap.size W w2 := below_grown (HBK.out.alloc hsz _) (HR0.out.alloc _) (Nat.le_refl _) (by simp; omega) hgrow
            go_roundg (N - (i + 1))
            case measure => omega
            case rel => exact ⟨i + 1, rfl, by omega, by go_num, by simp only [if_true]; rw [HST.out, List.length_append, ← HNN.out]; simpa [nums] using hown', hb2⟩
        · obtain rfl : i = N := by omega
          have t1 : ¬ ((i : Int) < (i : Int)) := by omega
          have HPL : Hid (peersL (i : Int) node = prL node i) := peersL_eq HQ.out.symm
          have HB5 := Lib.hid (HB4.out.trans (HBK.out.mono HB4.out.size))
          have HS5 := Lib.hid (HS4.out.below HBK.out)
          go_wp2_with (first
            | (go_at_call 14; refine (HEX.out wr b HS5.out).mono ?_; rintro e w6 ⟨v6, rfl, ho6, hb6⟩; obtain ⟨A6, c6, rfl, hr6⟩ := own_strs ho6; dsimp only; have HR6 := Lib.hid hr6; have HX6 := Lib.hid (block_kept HXK.out hb6); have HS6 := Lib.hid (HS5.out.below hb6); have HB6 := Lib.hid (HB5.out.trans (hb6.mono HB5.out.size)); have HN6 := Lib.hid (own_below HR0.out hb6); clear ho6 hb6 hr6)
            | (go_at_call 15; refine (HIX.out w6 b HS6.out).mono ?_; rintro e w7 ⟨v7, rfl, ho7, hb7⟩; have HO7 := Lib.hid ho7; obtain ⟨A7, c7, rfl, hr7⟩ := own_strs ho7; dsimp only; have HX7 := Lib.hid (block_kept HX6.out hb7); have HS7 := Lib.hid (HS6.out.below hb7); have HB7 := Lib.hid (HB6.out.trans (hb7.mono HB6.out.size)); have HN7 := Lib.hid (own_below HN6.out hb7); have HR7 := Lib.hid (HR6.out.below hb7); have HQ7 := Lib.hid hr7; have HK7 := Lib.hid hb7; obtain ⟨⟨z0, z1, z2⟩, _⟩ := blk3 HX7.out; clear ho7 hb7 hr7 y0 y1 y2)
            | (go_at_call 17; refine (HMX.out _ HB7.out).mono ?_; rintro e w8 ⟨v8, rfl, ho8, hb8⟩; obtain ⟨A8, c8, rfl, hr8⟩ := own_strs ho8; dsimp only; have HX8 := Lib.hid (block_kept HX7.out hb8); have HS8 := Lib.hid (HS7.out.below hb8); have HB8 := Lib.hid (HB7.out.trans (hb8.mono HB7.out.size)); have HN8 := Lib.hid (own_below HN7.out hb8); have HO8 := Lib.hid (own_below HO7.out hb8); have HQ8 := Lib.hid (HQ7.out.below hb8); have HK8 := Lib.hid (HK7.out.trans (hb8.mono HK7.out.size)); have HR8 := Lib.hid (HR7.out.below hb8); have HV8 := Lib.hid hr8; clear ho8 hb8 hr8 z0 z1 z2)
            | (go_at_call 16; refine (same_strs w10 A7 A10 c7 c10 LI HQ10.out HV10.out (by omega)).mono ?_; rintro e w11 ⟨rfl, hb11⟩; have HX11 := Lib.hid (block_kept HX10.out hb11); have HS11 := Lib.hid (HS10.out.below hb11); have HB11 := Lib.hid (HB10.out.trans (hb11.mono HB10.out.size)); have HN11 := Lib.hid (own_below HN10.out hb11); have HO11 := Lib.hid (own_below HO10.out hb11); have HQ11 := Lib.hid (HQ10.out.below hb11); have HK11 := Lib.hid (HK10.out.trans (hb11.mono HK10.out.size)); clear hb11)
            | (go_at_call 16; refine (same_strs w8 A6 A8 c6 c8 LM HR8.out HV8.out (by omega)).mono ?_; rintro e w9 ⟨rfl, hb9⟩; have HX9 := Lib.hid (block_kept HX8.out hb9); have HS9 := Lib.hid (HS8.out.below hb9); have HB9 := Lib.hid (HB8.out.trans (hb9.mono HB8.out.size)); have HN9 := Lib.hid (own_below HN8.out hb9); have HO9 := Lib.hid (own_below HO8.out hb9); have HQ9 := Lib.hid (HQ8.out.below hb9); have HK9 := Lib.hid (HK8.out.trans (hb9.mono HK8.out.size)); obtain ⟨⟨z0, z1, z2⟩, _⟩ := blk3 HX9.out; clear hb9)
            | (go_at_call 18; refine (HSX.out _ HB9.out).mono ?_; rintro e w10 ⟨v10, rfl, ho10, hb10⟩; obtain ⟨A10, c10, rfl, hr10⟩ := own_strs ho10; dsimp only; have HX10 := Lib.hid (block_kept HX9.out hb10); have HS10 := Lib.hid (HS9.out.below hb10); have HB10 := Lib.hid (HB9.out.trans (hb10.mono HB9.out.size)); have HN10 := Lib.hid (own_below HN9.out hb10); have HO10 := Lib.hid (own_below HO9.out hb10); have HQ10 := Lib.hid (HQ9.out.below hb10); have HK10 := Lib.hid (HK9.out.trans (hb10.mono HK9.out.size)); have HV10 := Lib.hid hr10; clear ho10 hb10 hr10 z0 z1 z2))
          go_loopg [19] LI.length (fun (gh : Nat) s19 wx => ∃ i2 : Nat, gh = LI.length - i2 ∧ i2 ≤ LI.length ∧ s19 = .int .i64 (i2 : Int) ∧ Hid (∃ xs, wx.ownsRow w6.heap.size 9 1 (.slice A7 LI.length c7) LI.length xs ∧ Below w6.heap.size w6 wx))
          case atStart => exact ⟨0, rfl, Nat.zero_le _, rfl, _, HO11.out, HK11.out⟩
          case round =>
            obtain ⟨i2, rfl, hi2, rfl, hinv2⟩ := hrel
            obtain ⟨xs, hxs, hbx⟩ := hinv2.out
            by_cases hlt2 : i2 < LI.length
            · rcases Go.Joins.ownsRow_forms hxs with ⟨e7, h0⟩ | ⟨gm, cm, e7⟩
              · omega
              simp only [Value.slice.injEq] at e7
              obtain ⟨rfl, _, rfl⟩ := e7
              have s1 : (i2 : Int) < (LI.length : Int) := by omega
              have s2 : (0 : Int) ≤ (i2 : Int) := by omega
              have hxl : xs.length = LI.length * 1 := hxs.1
              obtain ⟨y, hy⟩ : ∃ y, xs[i2]? = some y := ⟨_, List.getElem?_eq_getElem (by omega)⟩
              have cc : wr.cell? ⟨gm, i2, none⟩ = some y := (hxs.cellAt i2 (by omega)).trans hy
              have ff : wr.frozen? ⟨gm, i2, none⟩ = false := hxs.frozenAt _
              have NX : Hid (∃ xs, (wr.setCell ⟨gm, i2, none⟩ (.string { data := #[] })).ownsRow w6.heap.size 9 1 (.slice (some ⟨gm, 0, none⟩) LI.length c7) LI.length xs ∧ Below w6.heap.size w6 (wr.setCell ⟨gm, i2, none⟩ (.string { data := #[] }))) :=
                ⟨_, (hxs.stored i2 (.string { data := #[] })).1, hbx.setCell (p := ⟨gm, i2, none⟩) (hxs.lt gm rfl).1 _⟩
              have HLT := Lib.hid hlt2
              clear hinv2 hxs hbx hy hxl hlt2
              go_wp2
              go_roundg (LI.length - (i2 + 1))
              case measure => have := HLT.out; omega
              case rel => exact ⟨i2 + 1, rfl, HLT.out, by go_num, NX⟩
            · obtain rfl : i2 = LI.length := by omega
              have HKX := Lib.hid hbx
              clear hinv2 hxs hbx
              have HKD : Hid (Below w6.heap.size w6 wr.drew) := HKX.out.drew
              have HX12 := Lib.hid (block_kept HX6.out HKD.out)
              have S12 := Lib.hid (blk3 HX12.out).1
              have HS12 := Lib.hid (HS6.out.below HKD.out)
              have HB12 := Lib.hid (HB6.out.trans (HKD.out.mono HB6.out.size))
              have HN12 : wr.drew.ownsRow W.heap.size 3 1 u15 LP.length (nums LP) := by rw [HLP.out, HPL.out]; exact own_below HN6.out HKD.out
              obtain ⟨AN, cN, rfl, hNR⟩ := own_nums HN12
              have HM12 := Lib.hid hNR
              have hle : (3 : Nat) ≤ 1000 := by omega
              have hle2 : (32 : Nat) ≤ 1000 := by omega
              have e9 : (hi1 == hi1) = true := by simp
              clear hNR HN12 HX7 HX8 HX9 HX10 HX11 HS7 HS8 HS9 HS10 HS11 HB7 HB8 HB9 HB10 HB11 HN6 HN7 HN8 HN9 HN10 HN11 HO7 HO8 HO9 HO10 HO11 HQ7 HQ8 HQ9 HQ10 HQ11 HK7 HK8 HK9 HK10 HK11 HR0
              go_upto_region 22 with fail
              go_region_held3 (fun w' => w'.cell? ⟨w1.heap.size, 0, none⟩ = some (.int .i64 (i : Int)) ∧ w'.cell? ⟨w1.heap.size, 1, none⟩ = some (.slice A ss.length c1) ∧ w'.cell? ⟨w1.heap.size, 2, none⟩ = some (.slice B ms.length c2)) (first | (with_reducible exact S12.out) | (with_reducible exact S13.out) | (with_reducible exact S14.out) | (with_reducible exact S15.out) | (with_reducible exact S16.out) | (with_reducible exact S17.out) | (with_reducible exact S18.out) | (with_reducible exact S19.out) | (with_reducible exact S20.out))
                (first
                | (go_at_call 9; (with_reducible refine (known_any _).mono ?_); rintro e w13 ⟨rfl, hb13⟩; have HX13 := Lib.hid (block_kept HX12.out hb13); have HS13 := Lib.hid (HS12.out.below hb13); have HB13 := Lib.hid (HB12.out.trans (hb13.mono HB12.out.size)); have HM13 := Lib.hid (HM12.out.below hb13); have S13 := Lib.hid (blk3 HX13.out).1; clear hb13)
                | (go_at_call 19; (with_reducible refine (HHX.out w13 b HS13.out).mono ?_); rintro e w14 ⟨rfl, hb14⟩; have HX14 := Lib.hid (block_kept HX13.out hb14); have HS14 := Lib.hid (HS13.out.below hb14); have HB14 := Lib.hid (HB13.out.trans (hb14.mono HB13.out.size)); have HM14 := Lib.hid (HM13.out.below hb14); have S14 := Lib.hid (blk3 HX14.out).1; clear hb14)
                | (go_at_call 20; (with_reducible refine (HRX.out w14 HB14.out).mono ?_); rintro e w15 ⟨rfl, hb15⟩; have HX15 := Lib.hid (block_kept HX14.out hb15); have HS15 := Lib.hid (HS14.out.below hb15); have HB15 := Lib.hid (HB14.out.trans (hb15.mono HB14.out.size)); have HM15 := Lib.hid (HM14.out.below hb15); have S15 := Lib.hid (blk3 HX15.out).1; clear hb15)
                | (go_at_call 22; (with_reducible refine (HPX.out w15 b HS15.out).mono ?_); rintro e w16 ⟨v16, rfl, ho16, hb16⟩; obtain ⟨A16, c16, rfl, hr16⟩ := own_nums ho16; have HX16 := Lib.hid (block_kept HX15.out hb16); have HS16 := Lib.hid (HS15.out.below hb16); have HB16 := Lib.hid (HB15.out.trans (hb16.mono HB15.out.size)); have HM16 := Lib.hid (HM15.out.below hb16); have S16 := Lib.hid (blk3 HX16.out).1; have HV16 := Lib.hid hr16; clear hb16 ho16 hr16)
                | (go_at_call 21; (with_reducible refine (same_nums w16 A16 AN c16 cN LP HV16.out HM16.out (Nat.le_trans hlp hle)).mono ?_); rintro e w17 ⟨rfl, hb17⟩; have HX17 := Lib.hid (block_kept HX16.out hb17); have HS17 := Lib.hid (HS16.out.below hb17); have HB17 := Lib.hid (HB16.out.trans (hb17.mono HB16.out.size)); have HM17 := Lib.hid (HM16.out.below hb17); have S17 := Lib.hid (blk3 HX17.out).1; clear hb17)
                | (go_at_call 15; (with_reducible refine (HIX.out w17 b HS17.out).mono ?_); rintro e w18 ⟨v18, rfl, ho18, hb18⟩; obtain ⟨A18, c18, rfl, hr18⟩ := own_strs ho18; have HX18 := Lib.hid (block_kept HX17.out hb18); have HS18 := Lib.hid (HS17.out.below hb18); have HB18 := Lib.hid (HB17.out.trans (hb18.mono HB17.out.size)); have HM18 := Lib.hid (HM17.out.below hb18); have S18 := Lib.hid (blk3 HX18.out).1; have HV18 := Lib.hid hr18; clear hb18 ho18 hr18)
                | (go_at_call 18; (with_reducible refine (HSX.out w18 HB18.out).mono ?_); rintro e w19 ⟨v19, rfl, ho19, hb19⟩; obtain ⟨A19, c19, rfl, hr19⟩ := own_strs ho19; have HX19 := Lib.hid (block_kept HX18.out hb19); have HS19 := Lib.hid (HS18.out.below hb19); have HB19 := Lib.hid (HB18.out.trans (hb19.mono HB18.out.size)); have HM19 := Lib.hid (HM18.out.below hb19); have S19 := Lib.hid (blk3 HX19.out).1; have HU19 := Lib.hid (HV18.out.below hb19); have HV19 := Lib.hid hr19; clear hb19 ho19 hr19)
                | (go_at_call 16; (with_reducible refine (same_strs w19 A18 A19 c18 c19 LI HU19.out HV19.out (Nat.le_trans hli hle2)).mono ?_); rintro e w20 ⟨rfl, hb20⟩; have HX20 := Lib.hid (block_kept HX19.out hb20); have HS20 := Lib.hid (HS19.out.below hb20); have HB20 := Lib.hid (HB19.out.trans (hb20.mono HB19.out.size)); have HM20 := Lib.hid (HM19.out.below hb20); have S20 := Lib.hid (blk3 HX20.out).1; clear hb20))
              go_wp2
              go_ret
              exact ⟨rfl, HB20.out⟩
  · go_enter Try.func4, Try.ntmps4
    go_wp2_with (first
      | (go_at_call 8; refine HT.out.mono ?_; rintro e w1 ⟨b, rfl, hS, hb⟩; have HB1 := Lib.hid (HB0.out.trans (hb.mono HB0.out.size)); have HBW : Hid (Below w1.heap.size w1 (w1.alloc (.cells #[.int .i64 (N : Int), .slice A ss.length c1, .slice B ms.length c2] 25))) := (Below.refl _ _).alloc (Nat.le_refl _) _; have HBN := Lib.hid (block_new w1 (.cells #[.int .i64 (N : Int), .slice A ss.length c1, .slice B ms.length c2] 25)); have HS2 := Lib.hid (hS.below HBW.out); have HB2 := Lib.hid (HB1.out.trans (HBW.out.mono HB1.out.size)); clear hS hb x0 x1 x2)
      | (go_at_call 12; refine (HHM.out _ b HS2.out).mono ?_; rintro e w3 ⟨rfl, hb3⟩; have HX3 := Lib.hid (block_kept HBN.out hb3); obtain ⟨⟨y0, y1, y2⟩, _⟩ := blk3 HX3.out; have HS3 := Lib.hid (HS2.out.below hb3); have HB3 := Lib.hid (HB2.out.trans (hb3.mono HB2.out.size)); clear hb3)
      | (go_at_call 13; refine (HRH.out _ HB3.out).mono ?_; rintro e w4 ⟨rfl, hb4⟩; have HX4 := Lib.hid (block_kept HX3.out hb4); have HS4 := Lib.hid (HS3.out.below hb4); have HB4 := Lib.hid (HB3.out.trans (hb4.mono HB3.out.size)); clear hb4 y0 y1 y2))
    obtain ⟨j0, hj0, jz0, jz1, jz2⟩ := info_parts infoI
    obtain ⟨q, hq⟩ : ∃ q, q = nodeB (N : Int) node := ⟨_, rfl⟩
    have HQ := Lib.hid hq
    obtain ⟨W, hW⟩ : ∃ W, W = w4 := ⟨_, rfl⟩
    subst hW
    clear HT HHM HRH hw0 hq
    go_loopg [16, 15] N (fun (gh : Nat) si sv wx => ∃ i : Nat, gh = N - i ∧ i ≤ N ∧ si = .int .i64 (i : Int) ∧ Hid (wx.ownsRow W.heap.size 3 1 sv (if q = true then prL node i else []).length (nums (if q = true then prL node i else [])) ∧ Below W.heap.size W wx))
    case atStart => exact ⟨0, rfl, Nat.zero_le _, rfl, by cases q <;> exact World.ownsRow_nil _ _ _ _, Below.refl _ _⟩
    case round =>
      obtain ⟨i, rfl, him, rfl, hinv⟩ := hrel
      have HR := Lib.hid hinv.out.1
      have HBK := Lib.hid hinv.out.2
      have hsz := hinv.out.2.size
      have HXK := Lib.hid (block_kept HX4.out hinv.out.2)
      obtain ⟨⟨y0, y1, y2⟩, _⟩ := blk3 HXK.out
      clear hinv
      cases q
      · have HPL : Hid (peersL (N : Int) node = []) := by show _ = _; unfold peersL; rw [← HQ.out]; rfl
        have HR0 : Hid (wr.ownsRow W.heap.size 3 1 u15 0 (nums [])) := HR.out
        clear HR
        by_cases hlt : i < N
        · have t1 : (i : Int) < (N : Int) := by omega
          by_cases hneg : node < 0
          · have t2 : ¬ (0 ≤ node) := by omega
            have HB5 := Lib.hid (HB4.out.trans (HBK.out.mono HB4.out.size))
            have HS5 := Lib.hid (HS4.out.below HBK.out)
            go_wp2_with (first
              | (go_at_call 14; refine (HEX.out wr b HS5.out).mono ?_; rintro e w6 ⟨v6, rfl, ho6, hb6⟩; obtain ⟨A6, c6, rfl, hr6⟩ := own_strs ho6; dsimp only; have HR6 := Lib.hid hr6; have HX6 := Lib.hid (block_kept HXK.out hb6); have HS6 := Lib.hid (HS5.out.below hb6); have HB6 := Lib.hid (HB5.out.trans (hb6.mono HB5.out.size)); have HN6 := Lib.hid (own_below HR0.out hb6); clear ho6 hb6 hr6)
              | (go_at_call 15; refine (HIX.out w6 b HS6.out).mono ?_; rintro e w7 ⟨v7, rfl, ho7, hb7⟩; have HO7 := Lib.hid ho7; obtain ⟨A7, c7, rfl, hr7⟩ := own_strs ho7; dsimp only; have HX7 := Lib.hid (block_kept HX6.out hb7); have HS7 := Lib.hid (HS6.out.below hb7); have HB7 := Lib.hid (HB6.out.trans (hb7.mono HB6.out.size)); have HN7 := Lib.hid (own_below HN6.out hb7); have HR7 := Lib.hid (HR6.out.below hb7); have HQ7 := Lib.hid hr7; have HK7 := Lib.hid hb7; obtain ⟨⟨z0, z1, z2⟩, _⟩ := blk3 HX7.out; clear ho7 hb7 hr7 y0 y1 y2)
              | (go_at_call 17; refine (HMX.out _ HB7.out).mono ?_; rintro e w8 ⟨v8, rfl, ho8, hb8⟩; obtain ⟨A8, c8, rfl, hr8⟩ := own_strs ho8; dsimp only; have HX8 := Lib.hid (block_kept HX7.out hb8); have HS8 := Lib.hid (HS7.out.below hb8); have HB8 := Lib.hid (HB7.out.trans (hb8.mono HB7.out.size)); have HN8 := Lib.hid (own_below HN7.out hb8); have HO8 := Lib.hid (own_below HO7.out hb8); have HQ8 := Lib.hid (HQ7.out.below hb8); have HK8 := Lib.hid (HK7.out.trans (hb8.mono HK7.out.size)); have HR8 := Lib.hid (HR7.out.below hb8); have HV8 := Lib.hid hr8; clear ho8 hb8 hr8 z0 z1 z2)
              | (go_at_call 16; refine (same_strs w10 A7 A10 c7 c10 LI HQ10.out HV10.out (by omega)).mono ?_; rintro e w11 ⟨rfl, hb11⟩; have HX11 := Lib.hid (block_kept HX10.out hb11); have HS11 := Lib.hid (HS10.out.below hb11); have HB11 := Lib.hid (HB10.out.trans (hb11.mono HB10.out.size)); have HN11 := Lib.hid (own_below HN10.out hb11); have HO11 := Lib.hid (own_below HO10.out hb11); have HQ11 := Lib.hid (HQ10.out.below hb11); have HK11 := Lib.hid (HK10.out.trans (hb11.mono HK10.out.size)); clear hb11)
              | (go_at_call 16; refine (same_strs w8 A6 A8 c6 c8 LM HR8.out HV8.out (by omega)).mono ?_; rintro e w9 ⟨rfl, hb9⟩; have HX9 := Lib.hid (block_kept HX8.out hb9); have HS9 := Lib.hid (HS8.out.below hb9); have HB9 := Lib.hid (HB8.out.trans (hb9.mono HB8.out.size)); have HN9 := Lib.hid (own_below HN8.out hb9); have HO9 := Lib.hid (own_below HO8.out hb9); have HQ9 := Lib.hid (HQ8.out.below hb9); have HK9 := Lib.hid (HK8.out.trans (hb9.mono HK8.out.size)); obtain ⟨⟨z0, z1, z2⟩, _⟩ := blk3 HX9.out; clear hb9)
              | (go_at_call 18; refine (HSX.out _ HB9.out).mono ?_; rintro e w10 ⟨v10, rfl, ho10, hb10⟩; obtain ⟨A10, c10, rfl, hr10⟩ := own_strs ho10; dsimp only; have HX10 := Lib.hid (block_kept HX9.out hb10); have HS10 := Lib.hid (HS9.out.below hb10); have HB10 := Lib.hid (HB9.out.trans (hb10.mono HB9.out.size)); have HN10 := Lib.hid (own_below HN9.out hb10); have HO10 := Lib.hid (own_below HO9.out hb10); have HQ10 := Lib.hid (HQ9.out.below hb10); have HK10 := Lib.hid (HK9.out.trans (hb10.mono HK9.out.size)); have HV10 := Lib.hid hr10; clear ho10 hb10 hr10 z0 z1 z2))
            go_loopg [19] LI.length (fun (gh : Nat) s19 wx => ∃ i2 : Nat, gh = LI.length - i2 ∧ i2 ≤ LI.length ∧ s19 = .int .i64 (i2 : Int) ∧ Hid (∃ xs, wx.ownsRow w6.heap.size 9 1 (.slice A7 LI.length c7) LI.length xs ∧ Below w6.heap.size w6 wx))
            case atStart => exact ⟨0, rfl, Nat.zero_le _, rfl, _, HO11.out, HK11.out⟩
            case round =>
              obtain ⟨i2, rfl, hi2, rfl, hinv2⟩ := hrel
              obtain ⟨xs, hxs, hbx⟩ := hinv2.out
              by_cases hlt2 : i2 < LI.length
              · rcases Go.Joins.ownsRow_forms hxs with ⟨e7, h0⟩ | ⟨gm, cm, e7⟩
                · omega
                simp only [Value.slice.injEq] at e7
                obtain ⟨rfl, _, rfl⟩ := e7
                have s1 : (i2 : Int) < (LI.length : Int) := by omega
                have s2 : (0 : Int) ≤ (i2 : Int) := by omega
                have hxl : xs.length = LI.length * 1 := hxs.1
                obtain ⟨y, hy⟩ : ∃ y, xs[i2]? = some y := ⟨_, List.getElem?_eq_getElem (by omega)⟩
                have cc : wr.cell? ⟨gm, i2, none⟩ = some y := (hxs.cellAt i2 (by omega)).trans hy
                have ff : wr.frozen? ⟨gm, i2, none⟩ = false := hxs.frozenAt _
                have NX : Hid (∃ xs, (wr.setCell ⟨gm, i2, none⟩ (.string { data := #[] })).ownsRow w6.heap.size 9 1 (.slice (some ⟨gm, 0, none⟩) LI.length c7) LI.length xs ∧ Below w6.heap.size w6 (wr.setCell ⟨gm, i2, none⟩ (.string { data := #[] }))) :=
                  ⟨_, (hxs.stored i2 (.string { data := #[] })).1, hbx.setCell (p := ⟨gm, i2, none⟩) (hxs.lt gm rfl).1 _⟩
                have HLT := Lib.hid hlt2
                clear hinv2 hxs hbx hy hxl hlt2
                go_wp2
                go_roundg (LI.length - (i2 + 1))
                case measure => have := HLT.out; omega
                case rel => exact ⟨i2 + 1, rfl, HLT.out, by go_num, NX⟩
              · obtain rfl : i2 = LI.length := by omega
                have HKX := Lib.hid hbx
                clear hinv2 hxs hbx
                have HKD : Hid (Below w6.heap.size w6 wr.drew) := HKX.out.drew
                have HX12 := Lib.hid (block_kept HX6.out HKD.out)
                have S12 := Lib.hid (blk3 HX12.out).1
                have HS12 := Lib.hid (HS6.out.below HKD.out)
                have HB12 := Lib.hid (HB6.out.trans (HKD.out.mono HB6.out.size))
                have HN12 : wr.drew.ownsRow W.heap.size 3 1 u15 LP.length (nums LP) := by rw [HLP.out, HPL.out]; exact own_below HN6.out HKD.out
                obtain ⟨AN, cN, rfl, hNR⟩ := own_nums HN12
                have HM12 := Lib.hid hNR
                have hle : (3 : Nat) ≤ 1000 := by omega
                have hle2 : (32 : Nat) ≤ 1000 := by omega
                have e9 : (hi1 == hi1) = true := by simp
                clear hNR HN12 HX7 HX8 HX9 HX10 HX11 HS7 HS8 HS9 HS10 HS11 HB7 HB8 HB9 HB10 HB11 HN6 HN7 HN8 HN9 HN10 HN11 HO7 HO8 HO9 HO10 HO11 HQ7 HQ8 HQ9 HQ10 HQ11 HK7 HK8 HK9 HK10 HK11 HR0
                go_upto_region 22 with fail
                go_region_held3 (fun w' => w'.cell? ⟨w1.heap.size, 0, none⟩ = some (.int .i64 (N : Int)) ∧ w'.cell? ⟨w1.heap.size, 1, none⟩ = some (.slice A ss.length c1) ∧ w'.cell? ⟨w1.heap.size, 2, none⟩ = some (.slice B ms.length c2)) (first | (with_reducible exact S12.out) | (with_reducible exact S13.out) | (with_reducible exact S14.out) | (with_reducible exact S15.out) | (with_reducible exact S16.out) | (with_reducible exact S17.out) | (with_reducible exact S18.out) | (with_reducible exact S19.out) | (with_reducible exact S20.out))
                  (first
                  | (go_at_call 9; (with_reducible refine (known_any _).mono ?_); rintro e w13 ⟨rfl, hb13⟩; have HX13 := Lib.hid (block_kept HX12.out hb13); have HS13 := Lib.hid (HS12.out.below hb13); have HB13 := Lib.hid (HB12.out.trans (hb13.mono HB12.out.size)); have HM13 := Lib.hid (HM12.out.below hb13); have S13 := Lib.hid (blk3 HX13.out).1; clear hb13)
                  | (go_at_call 19; (with_reducible refine (HHX.out w13 b HS13.out).mono ?_); rintro e w14 ⟨rfl, hb14⟩; have HX14 := Lib.hid (block_kept HX13.out hb14); have HS14 := Lib.hid (HS13.out.below hb14); have HB14 := Lib.hid (HB13.out.trans (hb14.mono HB13.out.size)); have HM14 := Lib.hid (HM13.out.below hb14); have S14 := Lib.hid (blk3 HX14.out).1; clear hb14)
                  | (go_at_call 20; (with_reducible refine (HRX.out w14 HB14.out).mono ?_); rintro e w15 ⟨rfl, hb15⟩; have HX15 := Lib.hid (block_kept HX14.out hb15); have HS15 := Lib.hid (HS14.out.below hb15); have HB15 := Lib.hid (HB14.out.trans (hb15.mono HB14.out.size)); have HM15 := Lib.hid (HM14.out.below hb15); have S15 := Lib.hid (blk3 HX15.out).1; clear hb15)
                  | (go_at_call 22; (with_reducible refine (HPX.out w15 b HS15.out).mono ?_); rintro e w16 ⟨v16, rfl, ho16, hb16⟩; obtain ⟨A16, c16, rfl, hr16⟩ := own_nums ho16; have HX16 := Lib.hid (block_kept HX15.out hb16); have HS16 := Lib.hid (HS15.out.below hb16); have HB16 := Lib.hid (HB15.out.trans (hb16.mono HB15.out.size)); have HM16 := Lib.hid (HM15.out.below hb16); have S16 := Lib.hid (blk3 HX16.out).1; have HV16 := Lib.hid hr16; clear hb16 ho16 hr16)
                  | (go_at_call 21; (with_reducible refine (same_nums w16 A16 AN c16 cN LP HV16.out HM16.out (Nat.le_trans hlp hle)).mono ?_); rintro e w17 ⟨rfl, hb17⟩; have HX17 := Lib.hid (block_kept HX16.out hb17); have HS17 := Lib.hid (HS16.out.below hb17); have HB17 := Lib.hid (HB16.out.trans (hb17.mono HB16.out.size)); have HM17 := Lib.hid (HM16.out.below hb17); have S17 := Lib.hid (blk3 HX17.out).1; clear hb17)
                  | (go_at_call 15; (with_reducible refine (HIX.out w17 b HS17.out).mono ?_); rintro e w18 ⟨v18, rfl, ho18, hb18⟩; obtain ⟨A18, c18, rfl, hr18⟩ := own_strs ho18; have HX18 := Lib.hid (block_kept HX17.out hb18); have HS18 := Lib.hid (HS17.out.below hb18); have HB18 := Lib.hid (HB17.out.trans (hb18.mono HB17.out.size)); have HM18 := Lib.hid (HM17.out.below hb18); have S18 := Lib.hid (blk3 HX18.out).1; have HV18 := Lib.hid hr18; clear hb18 ho18 hr18)
                  | (go_at_call 18; (with_reducible refine (HSX.out w18 HB18.out).mono ?_); rintro e w19 ⟨v19, rfl, ho19, hb19⟩; obtain ⟨A19, c19, rfl, hr19⟩ := own_strs ho19; have HX19 := Lib.hid (block_kept HX18.out hb19); have HS19 := Lib.hid (HS18.out.below hb19); have HB19 := Lib.hid (HB18.out.trans (hb19.mono HB18.out.size)); have HM19 := Lib.hid (HM18.out.below hb19); have S19 := Lib.hid (blk3 HX19.out).1; have HU19 := Lib.hid (HV18.out.below hb19); have HV19 := Lib.hid hr19; clear hb19 ho19 hr19)
                  | (go_at_call 16; (with_reducible refine (same_strs w19 A18 A19 c18 c19 LI HU19.out HV19.out (Nat.le_trans hli hle2)).mono ?_); rintro e w20 ⟨rfl, hb20⟩; have HX20 := Lib.hid (block_kept HX19.out hb20); have HS20 := Lib.hid (HS19.out.below hb20); have HB20 := Lib.hid (HB19.out.trans (hb20.mono HB19.out.size)); have HM20 := Lib.hid (HM19.out.below hb20); have S20 := Lib.hid (blk3 HX20.out).1; clear hb20))
                go_wp2
                go_ret
                exact ⟨rfl, HB20.out⟩
          · have t2 : 0 ≤ node := by omega
            have t3 : ¬ (node < (N : Int)) := fun h => by
              have := HQ.out
              unfold nodeB at this
              rw [decide_eq_true t2, decide_eq_true h] at this
              cases this
            have HB5 := Lib.hid (HB4.out.trans (HBK.out.mono HB4.out.size))
            have HS5 := Lib.hid (HS4.out.below HBK.out)
            go_wp2_with (first
              | (go_at_call 14; refine (HEX.out wr b HS5.out).mono ?_; rintro e w6 ⟨v6, rfl, ho6, hb6⟩; obtain ⟨A6, c6, rfl, hr6⟩ := own_strs ho6; dsimp only; have HR6 := Lib.hid hr6; have HX6 := Lib.hid (block_kept HXK.out hb6); have HS6 := Lib.hid (HS5.out.below hb6); have HB6 := Lib.hid (HB5.out.trans (hb6.mono HB5.out.size)); have HN6 := Lib.hid (own_below HR0.out hb6); clear ho6 hb6 hr6)
              | (go_at_call 15; refine (HIX.out w6 b HS6.out).mono ?_; rintro e w7 ⟨v7, rfl, ho7, hb7⟩; have HO7 := Lib.hid ho7; obtain ⟨A7, c7, rfl, hr7⟩ := own_strs ho7; dsimp only; have HX7 := Lib.hid (block_kept HX6.out hb7); have HS7 := Lib.hid (HS6.out.below hb7); have HB7 := Lib.hid (HB6.out.trans (hb7.mono HB6.out.size)); have HN7 := Lib.hid (own_below HN6.out hb7); have HR7 := Lib.hid (HR6.out.below hb7); have HQ7 := Lib.hid hr7; have HK7 := Lib.hid hb7; obtain ⟨⟨z0, z1, z2⟩, _⟩ := blk3 HX7.out; clear ho7 hb7 hr7 y0 y1 y2)
              | (go_at_call 17; refine (HMX.out _ HB7.out).mono ?_; rintro e w8 ⟨v8, rfl, ho8, hb8⟩; obtain ⟨A8, c8, rfl, hr8⟩ := own_strs ho8; dsimp only; have HX8 := Lib.hid (block_kept HX7.out hb8); have HS8 := Lib.hid (HS7.out.below hb8); have HB8 := Lib.hid (HB7.out.trans (hb8.mono HB7.out.size)); have HN8 := Lib.hid (own_below HN7.out hb8); have HO8 := Lib.hid (own_below HO7.out hb8); have HQ8 := Lib.hid (HQ7.out.below hb8); have HK8 := Lib.hid (HK7.out.trans (hb8.mono HK7.out.size)); have HR8 := Lib.hid (HR7.out.below hb8); have HV8 := Lib.hid hr8; clear ho8 hb8 hr8 z0 z1 z2)
              | (go_at_call 16; refine (same_strs w10 A7 A10 c7 c10 LI HQ10.out HV10.out (by omega)).mono ?_; rintro e w11 ⟨rfl, hb11⟩; have HX11 := Lib.hid (block_kept HX10.out hb11); have HS11 := Lib.hid (HS10.out.below hb11); have HB11 := Lib.hid (HB10.out.trans (hb11.mono HB10.out.size)); have HN11 := Lib.hid (own_below HN10.out hb11); have HO11 := Lib.hid (own_below HO10.out hb11); have HQ11 := Lib.hid (HQ10.out.below hb11); have HK11 := Lib.hid (HK10.out.trans (hb11.mono HK10.out.size)); clear hb11)
              | (go_at_call 16; refine (same_strs w8 A6 A8 c6 c8 LM HR8.out HV8.out (by omega)).mono ?_; rintro e w9 ⟨rfl, hb9⟩; have HX9 := Lib.hid (block_kept HX8.out hb9); have HS9 := Lib.hid (HS8.out.below hb9); have HB9 := Lib.hid (HB8.out.trans (hb9.mono HB8.out.size)); have HN9 := Lib.hid (own_below HN8.out hb9); have HO9 := Lib.hid (own_below HO8.out hb9); have HQ9 := Lib.hid (HQ8.out.below hb9); have HK9 := Lib.hid (HK8.out.trans (hb9.mono HK8.out.size)); obtain ⟨⟨z0, z1, z2⟩, _⟩ := blk3 HX9.out; clear hb9)
              | (go_at_call 18; refine (HSX.out _ HB9.out).mono ?_; rintro e w10 ⟨v10, rfl, ho10, hb10⟩; obtain ⟨A10, c10, rfl, hr10⟩ := own_strs ho10; dsimp only; have HX10 := Lib.hid (block_kept HX9.out hb10); have HS10 := Lib.hid (HS9.out.below hb10); have HB10 := Lib.hid (HB9.out.trans (hb10.mono HB9.out.size)); have HN10 := Lib.hid (own_below HN9.out hb10); have HO10 := Lib.hid (own_below HO9.out hb10); have HQ10 := Lib.hid (HQ9.out.below hb10); have HK10 := Lib.hid (HK9.out.trans (hb10.mono HK9.out.size)); have HV10 := Lib.hid hr10; clear ho10 hb10 hr10 z0 z1 z2))
            go_loopg [19] LI.length (fun (gh : Nat) s19 wx => ∃ i2 : Nat, gh = LI.length - i2 ∧ i2 ≤ LI.length ∧ s19 = .int .i64 (i2 : Int) ∧ Hid (∃ xs, wx.ownsRow w6.heap.size 9 1 (.slice A7 LI.length c7) LI.length xs ∧ Below w6.heap.size w6 wx))
            case atStart => exact ⟨0, rfl, Nat.zero_le _, rfl, _, HO11.out, HK11.out⟩
            case round =>
              obtain ⟨i2, rfl, hi2, rfl, hinv2⟩ := hrel
              obtain ⟨xs, hxs, hbx⟩ := hinv2.out
              by_cases hlt2 : i2 < LI.length
              · rcases Go.Joins.ownsRow_forms hxs with ⟨e7, h0⟩ | ⟨gm, cm, e7⟩
                · omega
                simp only [Value.slice.injEq] at e7
                obtain ⟨rfl, _, rfl⟩ := e7
                have s1 : (i2 : Int) < (LI.length : Int) := by omega
                have s2 : (0 : Int) ≤ (i2 : Int) := by omega
                have hxl : xs.length = LI.length * 1 := hxs.1
                obtain ⟨y, hy⟩ : ∃ y, xs[i2]? = some y := ⟨_, List.getElem?_eq_getElem (by omega)⟩
                have cc : wr.cell? ⟨gm, i2, none⟩ = some y := (hxs.cellAt i2 (by omega)).trans hy
                have ff : wr.frozen? ⟨gm, i2, none⟩ = false := hxs.frozenAt _
                have NX : Hid (∃ xs, (wr.setCell ⟨gm, i2, none⟩ (.string { data := #[] })).ownsRow w6.heap.size 9 1 (.slice (some ⟨gm, 0, none⟩) LI.length c7) LI.length xs ∧ Below w6.heap.size w6 (wr.setCell ⟨gm, i2, none⟩ (.string { data := #[] }))) :=
                  ⟨_, (hxs.stored i2 (.string { data := #[] })).1, hbx.setCell (p := ⟨gm, i2, none⟩) (hxs.lt gm rfl).1 _⟩
                have HLT := Lib.hid hlt2
                clear hinv2 hxs hbx hy hxl hlt2
                go_wp2
                go_roundg (LI.length - (i2 + 1))
                case measure => have := HLT.out; omega
                case rel => exact ⟨i2 + 1, rfl, HLT.out, by go_num, NX⟩
              · obtain rfl : i2 = LI.length := by omega
                have HKX := Lib.hid hbx
                clear hinv2 hxs hbx
                have HKD : Hid (Below w6.heap.size w6 wr.drew) := HKX.out.drew
                have HX12 := Lib.hid (block_kept HX6.out HKD.out)
                have S12 := Lib.hid (blk3 HX12.out).1
                have HS12 := Lib.hid (HS6.out.below HKD.out)
                have HB12 := Lib.hid (HB6.out.trans (HKD.out.mono HB6.out.size))
                have HN12 : wr.drew.ownsRow W.heap.size 3 1 u15 LP.length (nums LP) := by rw [HLP.out, HPL.out]; exact own_below HN6.out HKD.out
                obtain ⟨AN, cN, rfl, hNR⟩ := own_nums HN12
                have HM12 := Lib.hid hNR
                have hle : (3 : Nat) ≤ 1000 := by omega
                have hle2 : (32 : Nat) ≤ 1000 := by omega
                have e9 : (hi1 == hi1) = true := by simp
                clear hNR HN12 HX7 HX8 HX9 HX10 HX11 HS7 HS8 HS9 HS10 HS11 HB7 HB8 HB9 HB10 HB11 HN6 HN7 HN8 HN9 HN10 HN11 HO7 HO8 HO9 HO10 HO11 HQ7 HQ8 HQ9 HQ10 HQ11 HK7 HK8 HK9 HK10 HK11 HR0
                go_upto_region 22 with fail
                go_region_held3 (fun w' => w'.cell? ⟨w1.heap.size, 0, none⟩ = some (.int .i64 (N : Int)) ∧ w'.cell? ⟨w1.heap.size, 1, none⟩ = some (.slice A ss.length c1) ∧ w'.cell? ⟨w1.heap.size, 2, none⟩ = some (.slice B ms.length c2)) (first | (with_reducible exact S12.out) | (with_reducible exact S13.out) | (with_reducible exact S14.out) | (with_reducible exact S15.out) | (with_reducible exact S16.out) | (with_reducible exact S17.out) | (with_reducible exact S18.out) | (with_reducible exact S19.out) | (with_reducible exact S20.out))
                  (first
                  | (go_at_call 9; (with_reducible refine (known_any _).mono ?_); rintro e w13 ⟨rfl, hb13⟩; have HX13 := Lib.hid (block_kept HX12.out hb13); have HS13 := Lib.hid (HS12.out.below hb13); have HB13 := Lib.hid (HB12.out.trans (hb13.mono HB12.out.size)); have HM13 := Lib.hid (HM12.out.below hb13); have S13 := Lib.hid (blk3 HX13.out).1; clear hb13)
                  | (go_at_call 19; (with_reducible refine (HHX.out w13 b HS13.out).mono ?_); rintro e w14 ⟨rfl, hb14⟩; have HX14 := Lib.hid (block_kept HX13.out hb14); have HS14 := Lib.hid (HS13.out.below hb14); have HB14 := Lib.hid (HB13.out.trans (hb14.mono HB13.out.size)); have HM14 := Lib.hid (HM13.out.below hb14); have S14 := Lib.hid (blk3 HX14.out).1; clear hb14)
                  | (go_at_call 20; (with_reducible refine (HRX.out w14 HB14.out).mono ?_); rintro e w15 ⟨rfl, hb15⟩; have HX15 := Lib.hid (block_kept HX14.out hb15); have HS15 := Lib.hid (HS14.out.below hb15); have HB15 := Lib.hid (HB14.out.trans (hb15.mono HB14.out.size)); have HM15 := Lib.hid (HM14.out.below hb15); have S15 := Lib.hid (blk3 HX15.out).1; clear hb15)
                  | (go_at_call 22; (with_reducible refine (HPX.out w15 b HS15.out).mono ?_); rintro e w16 ⟨v16, rfl, ho16, hb16⟩; obtain ⟨A16, c16, rfl, hr16⟩ := own_nums ho16; have HX16 := Lib.hid (block_kept HX15.out hb16); have HS16 := Lib.hid (HS15.out.below hb16); have HB16 := Lib.hid (HB15.out.trans (hb16.mono HB15.out.size)); have HM16 := Lib.hid (HM15.out.below hb16); have S16 := Lib.hid (blk3 HX16.out).1; have HV16 := Lib.hid hr16; clear hb16 ho16 hr16)
                  | (go_at_call 21; (with_reducible refine (same_nums w16 A16 AN c16 cN LP HV16.out HM16.out (Nat.le_trans hlp hle)).mono ?_); rintro e w17 ⟨rfl, hb17⟩; have HX17 := Lib.hid (block_kept HX16.out hb17); have HS17 := Lib.hid (HS16.out.below hb17); have HB17 := Lib.hid (HB16.out.trans (hb17.mono HB16.out.size)); have HM17 := Lib.hid (HM16.out.below hb17); have S17 := Lib.hid (blk3 HX17.out).1; clear hb17)
                  | (go_at_call 15; (with_reducible refine (HIX.out w17 b HS17.out).mono ?_); rintro e w18 ⟨v18, rfl, ho18, hb18⟩; obtain ⟨A18, c18, rfl, hr18⟩ := own_strs ho18; have HX18 := Lib.hid (block_kept HX17.out hb18); have HS18 := Lib.hid (HS17.out.below hb18); have HB18 := Lib.hid (HB17.out.trans (hb18.mono HB17.out.size)); have HM18 := Lib.hid (HM17.out.below hb18); have S18 := Lib.hid (blk3 HX18.out).1; have HV18 := Lib.hid hr18; clear hb18 ho18 hr18)
                  | (go_at_call 18; (with_reducible refine (HSX.out w18 HB18.out).mono ?_); rintro e w19 ⟨v19, rfl, ho19, hb19⟩; obtain ⟨A19, c19, rfl, hr19⟩ := own_strs ho19; have HX19 := Lib.hid (block_kept HX18.out hb19); have HS19 := Lib.hid (HS18.out.below hb19); have HB19 := Lib.hid (HB18.out.trans (hb19.mono HB18.out.size)); have HM19 := Lib.hid (HM18.out.below hb19); have S19 := Lib.hid (blk3 HX19.out).1; have HU19 := Lib.hid (HV18.out.below hb19); have HV19 := Lib.hid hr19; clear hb19 ho19 hr19)
                  | (go_at_call 16; (with_reducible refine (same_strs w19 A18 A19 c18 c19 LI HU19.out HV19.out (Nat.le_trans hli hle2)).mono ?_); rintro e w20 ⟨rfl, hb20⟩; have HX20 := Lib.hid (block_kept HX19.out hb20); have HS20 := Lib.hid (HS19.out.below hb20); have HB20 := Lib.hid (HB19.out.trans (hb20.mono HB19.out.size)); have HM20 := Lib.hid (HM19.out.below hb20); have S20 := Lib.hid (blk3 HX20.out).1; clear hb20))
                go_wp2
                go_ret
                exact ⟨rfl, HB20.out⟩
        · have t1 : ¬ ((i : Int) < (N : Int)) := by omega
          have HB5 := Lib.hid (HB4.out.trans (HBK.out.mono HB4.out.size))
          have HS5 := Lib.hid (HS4.out.below HBK.out)
          go_wp2_with (first
            | (go_at_call 14; refine (HEX.out wr b HS5.out).mono ?_; rintro e w6 ⟨v6, rfl, ho6, hb6⟩; obtain ⟨A6, c6, rfl, hr6⟩ := own_strs ho6; dsimp only; have HR6 := Lib.hid hr6; have HX6 := Lib.hid (block_kept HXK.out hb6); have HS6 := Lib.hid (HS5.out.below hb6); have HB6 := Lib.hid (HB5.out.trans (hb6.mono HB5.out.size)); have HN6 := Lib.hid (own_below HR0.out hb6); clear ho6 hb6 hr6)
            | (go_at_call 15; refine (HIX.out w6 b HS6.out).mono ?_; rintro e w7 ⟨v7, rfl, ho7, hb7⟩; have HO7 := Lib.hid ho7; obtain ⟨A7, c7, rfl, hr7⟩ := own_strs ho7; dsimp only; have HX7 := Lib.hid (block_kept HX6.out hb7); have HS7 := Lib.hid (HS6.out.below hb7); have HB7 := Lib.hid (HB6.out.trans (hb7.mono HB6.out.size)); have HN7 := Lib.hid (own_below HN6.out hb7); have HR7 := Lib.hid (HR6.out.below hb7); have HQ7 := Lib.hid hr7; have HK7 := Lib.hid hb7; obtain ⟨⟨z0, z1, z2⟩, _⟩ := blk3 HX7.out; clear ho7 hb7 hr7 y0 y1 y2)
            | (go_at_call 17; refine (HMX.out _ HB7.out).mono ?_; rintro e w8 ⟨v8, rfl, ho8, hb8⟩; obtain ⟨A8, c8, rfl, hr8⟩ := own_strs ho8; dsimp only; have HX8 := Lib.hid (block_kept HX7.out hb8); have HS8 := Lib.hid (HS7.out.below hb8); have HB8 := Lib.hid (HB7.out.trans (hb8.mono HB7.out.size)); have HN8 := Lib.hid (own_below HN7.out hb8); have HO8 := Lib.hid (own_below HO7.out hb8); have HQ8 := Lib.hid (HQ7.out.below hb8); have HK8 := Lib.hid (HK7.out.trans (hb8.mono HK7.out.size)); have HR8 := Lib.hid (HR7.out.below hb8); have HV8 := Lib.hid hr8; clear ho8 hb8 hr8 z0 z1 z2)
            | (go_at_call 16; refine (same_strs w10 A7 A10 c7 c10 LI HQ10.out HV10.out (by omega)).mono ?_; rintro e w11 ⟨rfl, hb11⟩; have HX11 := Lib.hid (block_kept HX10.out hb11); have HS11 := Lib.hid (HS10.out.below hb11); have HB11 := Lib.hid (HB10.out.trans (hb11.mono HB10.out.size)); have HN11 := Lib.hid (own_below HN10.out hb11); have HO11 := Lib.hid (own_below HO10.out hb11); have HQ11 := Lib.hid (HQ10.out.below hb11); have HK11 := Lib.hid (HK10.out.trans (hb11.mono HK10.out.size)); clear hb11)
            | (go_at_call 16; refine (same_strs w8 A6 A8 c6 c8 LM HR8.out HV8.out (by omega)).mono ?_; rintro e w9 ⟨rfl, hb9⟩; have HX9 := Lib.hid (block_kept HX8.out hb9); have HS9 := Lib.hid (HS8.out.below hb9); have HB9 := Lib.hid (HB8.out.trans (hb9.mono HB8.out.size)); have HN9 := Lib.hid (own_below HN8.out hb9); have HO9 := Lib.hid (own_below HO8.out hb9); have HQ9 := Lib.hid (HQ8.out.below hb9); have HK9 := Lib.hid (HK8.out.trans (hb9.mono HK8.out.size)); obtain ⟨⟨z0, z1, z2⟩, _⟩ := blk3 HX9.out; clear hb9)
            | (go_at_call 18; refine (HSX.out _ HB9.out).mono ?_; rintro e w10 ⟨v10, rfl, ho10, hb10⟩; obtain ⟨A10, c10, rfl, hr10⟩ := own_strs ho10; dsimp only; have HX10 := Lib.hid (block_kept HX9.out hb10); have HS10 := Lib.hid (HS9.out.below hb10); have HB10 := Lib.hid (HB9.out.trans (hb10.mono HB9.out.size)); have HN10 := Lib.hid (own_below HN9.out hb10); have HO10 := Lib.hid (own_below HO9.out hb10); have HQ10 := Lib.hid (HQ9.out.below hb10); have HK10 := Lib.hid (HK9.out.trans (hb10.mono HK9.out.size)); have HV10 := Lib.hid hr10; clear ho10 hb10 hr10 z0 z1 z2))
          go_loopg [19] LI.length (fun (gh : Nat) s19 wx => ∃ i2 : Nat, gh = LI.length - i2 ∧ i2 ≤ LI.length ∧ s19 = .int .i64 (i2 : Int) ∧ Hid (∃ xs, wx.ownsRow w6.heap.size 9 1 (.slice A7 LI.length c7) LI.length xs ∧ Below w6.heap.size w6 wx))
          case atStart => exact ⟨0, rfl, Nat.zero_le _, rfl, _, HO11.out, HK11.out⟩
          case round =>
            obtain ⟨i2, rfl, hi2, rfl, hinv2⟩ := hrel
            obtain ⟨xs, hxs, hbx⟩ := hinv2.out
            by_cases hlt2 : i2 < LI.length
            · rcases Go.Joins.ownsRow_forms hxs with ⟨e7, h0⟩ | ⟨gm, cm, e7⟩
              · omega
              simp only [Value.slice.injEq] at e7
              obtain ⟨rfl, _, rfl⟩ := e7
              have s1 : (i2 : Int) < (LI.length : Int) := by omega
              have s2 : (0 : Int) ≤ (i2 : Int) := by omega
              have hxl : xs.length = LI.length * 1 := hxs.1
              obtain ⟨y, hy⟩ : ∃ y, xs[i2]? = some y := ⟨_, List.getElem?_eq_getElem (by omega)⟩
              have cc : wr.cell? ⟨gm, i2, none⟩ = some y := (hxs.cellAt i2 (by omega)).trans hy
              have ff : wr.frozen? ⟨gm, i2, none⟩ = false := hxs.frozenAt _
              have NX : Hid (∃ xs, (wr.setCell ⟨gm, i2, none⟩ (.string { data := #[] })).ownsRow w6.heap.size 9 1 (.slice (some ⟨gm, 0, none⟩) LI.length c7) LI.length xs ∧ Below w6.heap.size w6 (wr.setCell ⟨gm, i2, none⟩ (.string { data := #[] }))) :=
                ⟨_, (hxs.stored i2 (.string { data := #[] })).1, hbx.setCell (p := ⟨gm, i2, none⟩) (hxs.lt gm rfl).1 _⟩
              have HLT := Lib.hid hlt2
              clear hinv2 hxs hbx hy hxl hlt2
              go_wp2
              go_roundg (LI.length - (i2 + 1))
              case measure => have := HLT.out; omega
              case rel => exact ⟨i2 + 1, rfl, HLT.out, by go_num, NX⟩
            · obtain rfl : i2 = LI.length := by omega
              have HKX := Lib.hid hbx
              clear hinv2 hxs hbx
              have HKD : Hid (Below w6.heap.size w6 wr.drew) := HKX.out.drew
              have HX12 := Lib.hid (block_kept HX6.out HKD.out)
              have S12 := Lib.hid (blk3 HX12.out).1
              have HS12 := Lib.hid (HS6.out.below HKD.out)
              have HB12 := Lib.hid (HB6.out.trans (HKD.out.mono HB6.out.size))
              have HN12 : wr.drew.ownsRow W.heap.size 3 1 u15 LP.length (nums LP) := by rw [HLP.out, HPL.out]; exact own_below HN6.out HKD.out
              obtain ⟨AN, cN, rfl, hNR⟩ := own_nums HN12
              have HM12 := Lib.hid hNR
              have hle : (3 : Nat) ≤ 1000 := by omega
              have hle2 : (32 : Nat) ≤ 1000 := by omega
              have e9 : (hi1 == hi1) = true := by simp
              clear hNR HN12 HX7 HX8 HX9 HX10 HX11 HS7 HS8 HS9 HS10 HS11 HB7 HB8 HB9 HB10 HB11 HN6 HN7 HN8 HN9 HN10 HN11 HO7 HO8 HO9 HO10 HO11 HQ7 HQ8 HQ9 HQ10 HQ11 HK7 HK8 HK9 HK10 HK11 HR0
              go_upto_region 22 with fail
              go_region_held3 (fun w' => w'.cell? ⟨w1.heap.size, 0, none⟩ = some (.int .i64 (N : Int)) ∧ w'.cell? ⟨w1.heap.size, 1, none⟩ = some (.slice A ss.length c1) ∧ w'.cell? ⟨w1.heap.size, 2, none⟩ = some (.slice B ms.length c2)) (first | (with_reducible exact S12.out) | (with_reducible exact S13.out) | (with_reducible exact S14.out) | (with_reducible exact S15.out) | (with_reducible exact S16.out) | (with_reducible exact S17.out) | (with_reducible exact S18.out) | (with_reducible exact S19.out) | (with_reducible exact S20.out))
                (first
                | (go_at_call 9; (with_reducible refine (known_any _).mono ?_); rintro e w13 ⟨rfl, hb13⟩; have HX13 := Lib.hid (block_kept HX12.out hb13); have HS13 := Lib.hid (HS12.out.below hb13); have HB13 := Lib.hid (HB12.out.trans (hb13.mono HB12.out.size)); have HM13 := Lib.hid (HM12.out.below hb13); have S13 := Lib.hid (blk3 HX13.out).1; clear hb13)
                | (go_at_call 19; (with_reducible refine (HHX.out w13 b HS13.out).mono ?_); rintro e w14 ⟨rfl, hb14⟩; have HX14 := Lib.hid (block_kept HX13.out hb14); have HS14 := Lib.hid (HS13.out.below hb14); have HB14 := Lib.hid (HB13.out.trans (hb14.mono HB13.out.size)); have HM14 := Lib.hid (HM13.out.below hb14); have S14 := Lib.hid (blk3 HX14.out).1; clear hb14)
                | (go_at_call 20; (with_reducible refine (HRX.out w14 HB14.out).mono ?_); rintro e w15 ⟨rfl, hb15⟩; have HX15 := Lib.hid (block_kept HX14.out hb15); have HS15 := Lib.hid (HS14.out.below hb15); have HB15 := Lib.hid (HB14.out.trans (hb15.mono HB14.out.size)); have HM15 := Lib.hid (HM14.out.below hb15); have S15 := Lib.hid (blk3 HX15.out).1; clear hb15)
                | (go_at_call 22; (with_reducible refine (HPX.out w15 b HS15.out).mono ?_); rintro e w16 ⟨v16, rfl, ho16, hb16⟩; obtain ⟨A16, c16, rfl, hr16⟩ := own_nums ho16; have HX16 := Lib.hid (block_kept HX15.out hb16); have HS16 := Lib.hid (HS15.out.below hb16); have HB16 := Lib.hid (HB15.out.trans (hb16.mono HB15.out.size)); have HM16 := Lib.hid (HM15.out.below hb16); have S16 := Lib.hid (blk3 HX16.out).1; have HV16 := Lib.hid hr16; clear hb16 ho16 hr16)
                | (go_at_call 21; (with_reducible refine (same_nums w16 A16 AN c16 cN LP HV16.out HM16.out (Nat.le_trans hlp hle)).mono ?_); rintro e w17 ⟨rfl, hb17⟩; have HX17 := Lib.hid (block_kept HX16.out hb17); have HS17 := Lib.hid (HS16.out.below hb17); have HB17 := Lib.hid (HB16.out.trans (hb17.mono HB16.out.size)); have HM17 := Lib.hid (HM16.out.below hb17); have S17 := Lib.hid (blk3 HX17.out).1; clear hb17)
                | (go_at_call 15; (with_reducible refine (HIX.out w17 b HS17.out).mono ?_); rintro e w18 ⟨v18, rfl, ho18, hb18⟩; obtain ⟨A18, c18, rfl, hr18⟩ := own_strs ho18; have HX18 := Lib.hid (block_kept HX17.out hb18); have HS18 := Lib.hid (HS17.out.below hb18); have HB18 := Lib.hid (HB17.out.trans (hb18.mono HB17.out.size)); have HM18 := Lib.hid (HM17.out.below hb18); have S18 := Lib.hid (blk3 HX18.out).1; have HV18 := Lib.hid hr18; clear hb18 ho18 hr18)
                | (go_at_call 18; (with_reducible refine (HSX.out w18 HB18.out).mono ?_); rintro e w19 ⟨v19, rfl, ho19, hb19⟩; obtain ⟨A19, c19, rfl, hr19⟩ := own_strs ho19; have HX19 := Lib.hid (block_kept HX18.out hb19); have HS19 := Lib.hid (HS18.out.below hb19); have HB19 := Lib.hid (HB18.out.trans (hb19.mono HB18.out.size)); have HM19 := Lib.hid (HM18.out.below hb19); have S19 := Lib.hid (blk3 HX19.out).1; have HU19 := Lib.hid (HV18.out.below hb19); have HV19 := Lib.hid hr19; clear hb19 ho19 hr19)
                | (go_at_call 16; (with_reducible refine (same_strs w19 A18 A19 c18 c19 LI HU19.out HV19.out (Nat.le_trans hli hle2)).mono ?_); rintro e w20 ⟨rfl, hb20⟩; have HX20 := Lib.hid (block_kept HX19.out hb20); have HS20 := Lib.hid (HS19.out.below hb20); have HB20 := Lib.hid (HB19.out.trans (hb20.mono HB19.out.size)); have HM20 := Lib.hid (HM19.out.below hb20); have S20 := Lib.hid (blk3 HX20.out).1; clear hb20))
              go_wp2
              go_ret
              exact ⟨rfl, HB20.out⟩
      · obtain ⟨k1, k2⟩ := nodeB_ge HQ.out.symm
        have HR0 : Hid (wr.ownsRow W.heap.size 3 1 u15 (prL node i).length (nums (prL node i))) := HR.out
        clear HR
        by_cases hlt : i < N
        · have t1 : (i : Int) < (N : Int) := by omega
          have hlen := prL_len node i
          have hst := prL_step node i
          obtain ⟨nn, hnn⟩ : ∃ nn, nn = (prL node i).length := ⟨_, rfl⟩
          rw [← hnn] at HR0 hlen
          have HNN := Lib.hid hnn
          clear hnn
          by_cases hik : (i : Int) = node
          · rw [if_pos hik, List.append_nil] at hst
            have HST := Lib.hid hst
            have hne : ((i : Int) != node) = false := by simpa using hik
            clear hst hik
            go_wp2
            go_roundg (N - (i + 1))
            case measure => omega
            case rel => exact ⟨i + 1, rfl, by omega, by go_num, by simp only [if_true]; rw [HST.out, ← HNN.out]; exact HR0.out, HBK.out⟩
          · rw [if_neg hik] at hst
            have HST := Lib.hid hst
            have hne : ((i : Int) != node) = true := by simpa using hik
            clear hst hik
            go_wp2_with (at_builtin; refine wpList_append_own _ rfl _ _ 37 rfl W.heap.size 3 j0 (.int .i64 0) 1 8 Try.underlying37 hj0 jz0 jz1 jz2 rfl (by decide) _ _ _ rfl (HR0.out.alloc _) ⟨wr.heap.size, 0, none⟩ 1 1 [.int .i64 (i : Int)] rfl rfl (one_new _ _ _) (by simp [Value.oneCell']) (by unfold maxLen; omega) (by omega) (by simp; omega) ?_; intro v' w2 hown' hgrow hnil)
            have hb2 : Below W.heap.size W w2 := below_grown (HBK.out.alloc hsz _) (HR0.out.alloc _) (Nat.le_refl _) (by simp; omega) hgrow
            go_roundg (N - (i + 1))
            case measure => omega
            case rel => exact ⟨i + 1, rfl, by omega, by go_num, by simp only [if_true]; rw [HST.out, List.length_append, ← HNN.out]; simpa [nums] using hown', hb2⟩
        · obtain rfl : i = N := by omega
          have t1 : ¬ ((i : Int) < (i : Int)) := by omega
          have HPL : Hid (peersL (i : Int) node = prL node i) := peersL_eq HQ.out.symm
          have HB5 := Lib.hid (HB4.out.trans (HBK.out.mono HB4.out.size))
          have HS5 := Lib.hid (HS4.out.below HBK.out)
          go_wp2_with (first
            | (go_at_call 14; refine (HEX.out wr b HS5.out).mono ?_; rintro e w6 ⟨v6, rfl, ho6, hb6⟩; obtain ⟨A6, c6, rfl, hr6⟩ := own_strs ho6; dsimp only; have HR6 := Lib.hid hr6; have HX6 := Lib.hid (block_kept HXK.out hb6); have HS6 := Lib.hid (HS5.out.below hb6); have HB6 := Lib.hid (HB5.out.trans (hb6.mono HB5.out.size)); have HN6 := Lib.hid (own_below HR0.out hb6); clear ho6 hb6 hr6)
            | (go_at_call 15; refine (HIX.out w6 b HS6.out).mono ?_; rintro e w7 ⟨v7, rfl, ho7, hb7⟩; have HO7 := Lib.hid ho7; obtain ⟨A7, c7, rfl, hr7⟩ := own_strs ho7; dsimp only; have HX7 := Lib.hid (block_kept HX6.out hb7); have HS7 := Lib.hid (HS6.out.below hb7); have HB7 := Lib.hid (HB6.out.trans (hb7.mono HB6.out.size)); have HN7 := Lib.hid (own_below HN6.out hb7); have HR7 := Lib.hid (HR6.out.below hb7); have HQ7 := Lib.hid hr7; have HK7 := Lib.hid hb7; obtain ⟨⟨z0, z1, z2⟩, _⟩ := blk3 HX7.out; clear ho7 hb7 hr7 y0 y1 y2)
            | (go_at_call 17; refine (HMX.out _ HB7.out).mono ?_; rintro e w8 ⟨v8, rfl, ho8, hb8⟩; obtain ⟨A8, c8, rfl, hr8⟩ := own_strs ho8; dsimp only; have HX8 := Lib.hid (block_kept HX7.out hb8); have HS8 := Lib.hid (HS7.out.below hb8); have HB8 := Lib.hid (HB7.out.trans (hb8.mono HB7.out.size)); have HN8 := Lib.hid (own_below HN7.out hb8); have HO8 := Lib.hid (own_below HO7.out hb8); have HQ8 := Lib.hid (HQ7.out.below hb8); have HK8 := Lib.hid (HK7.out.trans (hb8.mono HK7.out.size)); have HR8 := Lib.hid (HR7.out.below hb8); have HV8 := Lib.hid hr8; clear ho8 hb8 hr8 z0 z1 z2)
            | (go_at_call 16; refine (same_strs w10 A7 A10 c7 c10 LI HQ10.out HV10.out (by omega)).mono ?_; rintro e w11 ⟨rfl, hb11⟩; have HX11 := Lib.hid (block_kept HX10.out hb11); have HS11 := Lib.hid (HS10.out.below hb11); have HB11 := Lib.hid (HB10.out.trans (hb11.mono HB10.out.size)); have HN11 := Lib.hid (own_below HN10.out hb11); have HO11 := Lib.hid (own_below HO10.out hb11); have HQ11 := Lib.hid (HQ10.out.below hb11); have HK11 := Lib.hid (HK10.out.trans (hb11.mono HK10.out.size)); clear hb11)
            | (go_at_call 16; refine (same_strs w8 A6 A8 c6 c8 LM HR8.out HV8.out (by omega)).mono ?_; rintro e w9 ⟨rfl, hb9⟩; have HX9 := Lib.hid (block_kept HX8.out hb9); have HS9 := Lib.hid (HS8.out.below hb9); have HB9 := Lib.hid (HB8.out.trans (hb9.mono HB8.out.size)); have HN9 := Lib.hid (own_below HN8.out hb9); have HO9 := Lib.hid (own_below HO8.out hb9); have HQ9 := Lib.hid (HQ8.out.below hb9); have HK9 := Lib.hid (HK8.out.trans (hb9.mono HK8.out.size)); obtain ⟨⟨z0, z1, z2⟩, _⟩ := blk3 HX9.out; clear hb9)
            | (go_at_call 18; refine (HSX.out _ HB9.out).mono ?_; rintro e w10 ⟨v10, rfl, ho10, hb10⟩; obtain ⟨A10, c10, rfl, hr10⟩ := own_strs ho10; dsimp only; have HX10 := Lib.hid (block_kept HX9.out hb10); have HS10 := Lib.hid (HS9.out.below hb10); have HB10 := Lib.hid (HB9.out.trans (hb10.mono HB9.out.size)); have HN10 := Lib.hid (own_below HN9.out hb10); have HO10 := Lib.hid (own_below HO9.out hb10); have HQ10 := Lib.hid (HQ9.out.below hb10); have HK10 := Lib.hid (HK9.out.trans (hb10.mono HK9.out.size)); have HV10 := Lib.hid hr10; clear ho10 hb10 hr10 z0 z1 z2))
          go_loopg [19] LI.length (fun (gh : Nat) s19 wx => ∃ i2 : Nat, gh = LI.length - i2 ∧ i2 ≤ LI.length ∧ s19 = .int .i64 (i2 : Int) ∧ Hid (∃ xs, wx.ownsRow w6.heap.size 9 1 (.slice A7 LI.length c7) LI.length xs ∧ Below w6.heap.size w6 wx))
          case atStart => exact ⟨0, rfl, Nat.zero_le _, rfl, _, HO11.out, HK11.out⟩
          case round =>
            obtain ⟨i2, rfl, hi2, rfl, hinv2⟩ := hrel
            obtain ⟨xs, hxs, hbx⟩ := hinv2.out
            by_cases hlt2 : i2 < LI.length
            · rcases Go.Joins.ownsRow_forms hxs with ⟨e7, h0⟩ | ⟨gm, cm, e7⟩
              · omega
              simp only [Value.slice.injEq] at e7
              obtain ⟨rfl, _, rfl⟩ := e7
              have s1 : (i2 : Int) < (LI.length : Int) := by omega
              have s2 : (0 : Int) ≤ (i2 : Int) := by omega
              have hxl : xs.length = LI.length * 1 := hxs.1
              obtain ⟨y, hy⟩ : ∃ y, xs[i2]? = some y := ⟨_, List.getElem?_eq_getElem (by omega)⟩
              have cc : wr.cell? ⟨gm, i2, none⟩ = some y := (hxs.cellAt i2 (by omega)).trans hy
              have ff : wr.frozen? ⟨gm, i2, none⟩ = false := hxs.frozenAt _
              have NX : Hid (∃ xs, (wr.setCell ⟨gm, i2, none⟩ (.string { data := #[] })).ownsRow w6.heap.size 9 1 (.slice (some ⟨gm, 0, none⟩) LI.length c7) LI.length xs ∧ Below w6.heap.size w6 (wr.setCell ⟨gm, i2, none⟩ (.string { data := #[] }))) :=
                ⟨_, (hxs.stored i2 (.string { data := #[] })).1, hbx.setCell (p := ⟨gm, i2, none⟩) (hxs.lt gm rfl).1 _⟩
              have HLT := Lib.hid hlt2
              clear hinv2 hxs hbx hy hxl hlt2
              go_wp2
              go_roundg (LI.length - (i2 + 1))
              case measure => have := HLT.out; omega
              case rel => exact ⟨i2 + 1, rfl, HLT.out, by go_num, NX⟩
            · obtain rfl : i2 = LI.length := by omega
              have HKX := Lib.hid hbx
              clear hinv2 hxs hbx
              have HKD : Hid (Below w6.heap.size w6 wr.drew) := HKX.out.drew
              have HX12 := Lib.hid (block_kept HX6.out HKD.out)
              have S12 := Lib.hid (blk3 HX12.out).1
              have HS12 := Lib.hid (HS6.out.below HKD.out)
              have HB12 := Lib.hid (HB6.out.trans (HKD.out.mono HB6.out.size))
              have HN12 : wr.drew.ownsRow W.heap.size 3 1 u15 LP.length (nums LP) := by rw [HLP.out, HPL.out]; exact own_below HN6.out HKD.out
              obtain ⟨AN, cN, rfl, hNR⟩ := own_nums HN12
              have HM12 := Lib.hid hNR
              have hle : (3 : Nat) ≤ 1000 := by omega
              have hle2 : (32 : Nat) ≤ 1000 := by omega
              have e9 : (hi1 == hi1) = true := by simp
              clear hNR HN12 HX7 HX8 HX9 HX10 HX11 HS7 HS8 HS9 HS10 HS11 HB7 HB8 HB9 HB10 HB11 HN6 HN7 HN8 HN9 HN10 HN11 HO7 HO8 HO9 HO10 HO11 HQ7 HQ8 HQ9 HQ10 HQ11 HK7 HK8 HK9 HK10 HK11 HR0
              go_upto_region 22 with fail
              go_region_held3 (fun w' => w'.cell? ⟨w1.heap.size, 0, none⟩ = some (.int .i64 (i : Int)) ∧ w'.cell? ⟨w1.heap.size, 1, none⟩ = some (.slice A ss.length c1) ∧ w'.cell? ⟨w1.heap.size, 2, none⟩ = some (.slice B ms.length c2)) (first | (with_reducible exact S12.out) | (with_reducible exact S13.out) | (with_reducible exact S14.out) | (with_reducible exact S15.out) | (with_reducible exact S16.out) | (with_reducible exact S17.out) | (with_reducible exact S18.out) | (with_reducible exact S19.out) | (with_reducible exact S20.out))
                (first
                | (go_at_call 9; (with_reducible refine (known_any _).mono ?_); rintro e w13 ⟨rfl, hb13⟩; have HX13 := Lib.hid (block_kept HX12.out hb13); have HS13 := Lib.hid (HS12.out.below hb13); have HB13 := Lib.hid (HB12.out.trans (hb13.mono HB12.out.size)); have HM13 := Lib.hid (HM12.out.below hb13); have S13 := Lib.hid (blk3 HX13.out).1; clear hb13)
                | (go_at_call 19; (with_reducible refine (HHX.out w13 b HS13.out).mono ?_); rintro e w14 ⟨rfl, hb14⟩; have HX14 := Lib.hid (block_kept HX13.out hb14); have HS14 := Lib.hid (HS13.out.below hb14); have HB14 := Lib.hid (HB13.out.trans (hb14.mono HB13.out.size)); have HM14 := Lib.hid (HM13.out.below hb14); have S14 := Lib.hid (blk3 HX14.out).1; clear hb14)
                | (go_at_call 20; (with_reducible refine (HRX.out w14 HB14.out).mono ?_); rintro e w15 ⟨rfl, hb15⟩; have HX15 := Lib.hid (block_kept HX14.out hb15); have HS15 := Lib.hid (HS14.out.below hb15); have HB15 := Lib.hid (HB14.out.trans (hb15.mono HB14.out.size)); have HM15 := Lib.hid (HM14.out.below hb15); have S15 := Lib.hid (blk3 HX15.out).1; clear hb15)
                | (go_at_call 22; (with_reducible refine (HPX.out w15 b HS15.out).mono ?_); rintro e w16 ⟨v16, rfl, ho16, hb16⟩; obtain ⟨A16, c16, rfl, hr16⟩ := own_nums ho16; have HX16 := Lib.hid (block_kept HX15.out hb16); have HS16 := Lib.hid (HS15.out.below hb16); have HB16 := Lib.hid (HB15.out.trans (hb16.mono HB15.out.size)); have HM16 := Lib.hid (HM15.out.below hb16); have S16 := Lib.hid (blk3 HX16.out).1; have HV16 := Lib.hid hr16; clear hb16 ho16 hr16)
                | (go_at_call 21; (with_reducible refine (same_nums w16 A16 AN c16 cN LP HV16.out HM16.out (Nat.le_trans hlp hle)).mono ?_); rintro e w17 ⟨rfl, hb17⟩; have HX17 := Lib.hid (block_kept HX16.out hb17); have HS17 := Lib.hid (HS16.out.below hb17); have HB17 := Lib.hid (HB16.out.trans (hb17.mono HB16.out.size)); have HM17 := Lib.hid (HM16.out.below hb17); have S17 := Lib.hid (blk3 HX17.out).1; clear hb17)
                | (go_at_call 15; (with_reducible refine (HIX.out w17 b HS17.out).mono ?_); rintro e w18 ⟨v18, rfl, ho18, hb18⟩; obtain ⟨A18, c18, rfl, hr18⟩ := own_strs ho18; have HX18 := Lib.hid (block_kept HX17.out hb18); have HS18 := Lib.hid (HS17.out.below hb18); have HB18 := Lib.hid (HB17.out.trans (hb18.mono HB17.out.size)); have HM18 := Lib.hid (HM17.out.below hb18); have S18 := Lib.hid (blk3 HX18.out).1; have HV18 := Lib.hid hr18; clear hb18 ho18 hr18)
                | (go_at_call 18; (with_reducible refine (HSX.out w18 HB18.out).mono ?_); rintro e w19 ⟨v19, rfl, ho19, hb19⟩; obtain ⟨A19, c19, rfl, hr19⟩ := own_strs ho19; have HX19 := Lib.hid (block_kept HX18.out hb19); have HS19 := Lib.hid (HS18.out.below hb19); have HB19 := Lib.hid (HB18.out.trans (hb19.mono HB18.out.size)); have HM19 := Lib.hid (HM18.out.below hb19); have S19 := Lib.hid (blk3 HX19.out).1; have HU19 := Lib.hid (HV18.out.below hb19); have HV19 := Lib.hid hr19; clear hb19 ho19 hr19)
                | (go_at_call 16; (with_reducible refine (same_strs w19 A18 A19 c18 c19 LI HU19.out HV19.out (Nat.le_trans hli hle2)).mono ?_); rintro e w20 ⟨rfl, hb20⟩; have HX20 := Lib.hid (block_kept HX19.out hb20); have HS20 := Lib.hid (HS19.out.below hb20); have HB20 := Lib.hid (HB19.out.trans (hb20.mono HB19.out.size)); have HM20 := Lib.hid (HM19.out.below hb20); have S20 := Lib.hid (blk3 HX20.out).1; clear hb20))
              go_wp2
              go_ret
              exact ⟨rfl, HB20.out⟩
theorem law_tells (w : World) (v : Value) (h : RosIn w v) (name isin : ByteArray) (node : Int) : Calls Try.prog 4 #[v, .string name, .string isin, .int .i64 node] w fun e w' => e = .returned (.bool true) ∧ Below w.heap.size w w' := by
  obtain ⟨n, A, ss, c1, B, ms, c2, rfl, h1, h2, h3, h4, _⟩ := h
  by_cases hz : newE n (ss.take 40) (ms.take 70) = 0
  · exact law_tells_ok w n A c1 ss B c2 ms h1 h2 h3 h4 name isin node hz
  · exact law_tells_bad w n A c1 ss B c2 ms h1 h2 h3 h4 name isin node hz
end Go.Proofs.Ytkoihpfgleboiaa.Ro
