/-
  The law's alike at two stores that are alike; Copy of a store without a map. Conditions: at most a thousand files, whose names have at most twelve bytes.
-/
import Derived.Test.YtffeinbbgfogoaaSNms
import Derived.Test.YtffeinbbgfogoaaSDie1
namespace Go.Proofs.Ytffeinbbgfogoaa.Sr
open Go.RowKit Fr

set_option maxRecDepth 100000 in
set_option maxHeartbeats 2000000 in
theorem alike_yes {w : World} {p1 p2 : Nat} {s1 s2 : S} {mb1 mb2 : Option Nat} {L1 L2 : List Fi} (h1 : StR w p1 s1 mb1 L1) (h2 : StR w p2 s2 mb2 L2) (hd : s1.d = s2.d) (hu : s1.used = s2.used) (hr : s1.room = s2.room) (ha : Alike L1 L2) (hl : L1.length ≤ 1000) (hk : ∀ x ∈ L1, x.1.size ≤ 12) :
    Calls Try.prog 33 #[.pointer (some ⟨p1, 0, none⟩), .pointer (some ⟨p2, 0, none⟩)] w fun e w' => e = .returned (.bool true) ∧ Below w.heap.size w w' := by
  have hl2 : L2.length ≤ 1000 := by rw [← len_alike h1.keys h2.keys ha]; exact hl
  have hk2 : ∀ x ∈ L2, x.1.size ≤ 12 := fun x hx => by
    have := (ha x.1).1
    rw [has_mem.2 ⟨x, hx, rfl⟩] at this
    obtain ⟨y, hy, e⟩ := has_mem.1 this.symm
    rw [← e]; exact hk y hy
  have hn1 : ∀ W, Below w.heap.size w W → Calls Try.prog 31 #[.pointer (some ⟨p1, 0, none⟩)] W fun e w' => NmTo W w' L1 e := fun W hW => names_any (h1.below hW) hl hk
  have hnm : nmL L2 = nmL L1 := (nmL_alike h1.keys h2.keys ha).symm
  have hn2 : ∀ W, Below w.heap.size w W → Calls Try.prog 31 #[.pointer (some ⟨p2, 0, none⟩)] W fun e w' => NmTo W w' L1 e := fun W hW => (names_any (h2.below hW) hl2 hk2).mono fun e w' h => by
    unfold NmTo at h ⊢
    rw [hnm] at h; exact h
  have hlen : (nmL L1).length ≤ 1000 := by rw [nmL_len]; exact hl
  have HN1 := Lib.hid hn1
  have HN2 := Lib.hid hn2
  have H1 := Lib.hid h1
  have H2 := Lib.hid h2
  have HAL := Lib.hid ha
  have hdw : ∀ W p s mb L, StR W p s mb L → Calls Try.prog 29 #[.pointer (some ⟨p, 0, none⟩)] W fun e w' => e = .returned (.bool s.d) ∧ W = w' := fun W p s mb L h => down_own W p s mb h.blk
  have hrm : ∀ W p s mb L, StR W p s mb L → Calls Try.prog 26 #[.pointer (some ⟨p, 0, none⟩)] W fun e w' => e = .returned (.int .i64 s.room) ∧ W = w' := fun W p s mb L h => room_own W p s mb h.blk
  have hus : ∀ W p s mb L, StR W p s mb L → Calls Try.prog 30 #[.pointer (some ⟨p, 0, none⟩)] W fun e w' => e = .returned (.int .i64 s.used) ∧ W = w' := fun W p s mb L h => used_own W p s mb h.blk
  have D1 := hdw; have D2 := hdw
  obtain ⟨dd, hdd⟩ : ∃ dd, dd = s1.d := ⟨_, rfl⟩
  obtain ⟨uu, huu⟩ : ∃ uu, uu = s1.used := ⟨_, rfl⟩
  obtain ⟨rr, hrr⟩ : ∃ rr, rr = s1.room := ⟨_, rfl⟩
  have hD1 : ∀ W, Below w.heap.size w W → Calls Try.prog 29 #[.pointer (some ⟨p1, 0, none⟩)] W fun e w' => e = .returned (.bool dd) ∧ W = w' := fun W hW => by rw [hdd]; exact hdw W _ _ _ _ (h1.below hW)
  have hD2 : ∀ W, Below w.heap.size w W → Calls Try.prog 29 #[.pointer (some ⟨p2, 0, none⟩)] W fun e w' => e = .returned (.bool dd) ∧ W = w' := fun W hW => by rw [hdd, hd]; exact hdw W _ _ _ _ (h2.below hW)
  have hU1 : ∀ W, Below w.heap.size w W → Calls Try.prog 30 #[.pointer (some ⟨p1, 0, none⟩)] W fun e w' => e = .returned (.int .i64 uu) ∧ W = w' := fun W hW => by rw [huu]; exact hus W _ _ _ _ (h1.below hW)
  have hU2 : ∀ W, Below w.heap.size w W → Calls Try.prog 30 #[.pointer (some ⟨p2, 0, none⟩)] W fun e w' => e = .returned (.int .i64 uu) ∧ W = w' := fun W hW => by rw [huu, hu]; exact hus W _ _ _ _ (h2.below hW)
  have hR1 : ∀ W, Below w.heap.size w W → Calls Try.prog 26 #[.pointer (some ⟨p1, 0, none⟩)] W fun e w' => e = .returned (.int .i64 rr) ∧ W = w' := fun W hW => by rw [hrr]; exact hrm W _ _ _ _ (h1.below hW)
  have hR2 : ∀ W, Below w.heap.size w W → Calls Try.prog 26 #[.pointer (some ⟨p2, 0, none⟩)] W fun e w' => e = .returned (.int .i64 rr) ∧ W = w' := fun W hW => by rw [hrr, hr]; exact hrm W _ _ _ _ (h2.below hW)
  have HD1 := Lib.hid hD1
  have HD2 := Lib.hid hD2
  have HU1 := Lib.hid hU1
  have HU2 := Lib.hid hU2
  have HR1 := Lib.hid hR1
  have HR2 := Lib.hid hR2
  obtain ⟨N, hN⟩ : ∃ N, N = nmL L1 := ⟨_, rfl⟩
  obtain ⟨n, hn⟩ : ∃ n, n = N.length := ⟨_, rfl⟩
  have HNN := Lib.hid hN
  have HNL := Lib.hid hn
  have e0 : (0 : Int) ≤ (n : Int) := by omega
  have e1 : n ≤ 1000 := by rw [hn, hN]; exact hlen
  have HB0 := Lib.hid (Below.refl w.heap.size w)
  have hnt : ∀ W w' e, NmTo W w' L1 e → ∃ A c, e = .returned (.slice A n c) ∧ SRd w' A N ∧ Below W.heap.size W w' := fun W w' e h => by
    rw [hn, hN]; exact h
  have HNT := Lib.hid hnt
  clear h1 h2 hd hu hr ha hl hk hl2 hk2 hn1 hn2 hnm hlen hdw hrm hus D1 D2 hdd huu hrr hD1 hD2 hU1 hU2 hR1 hR2 hN hn hnt
  go_enter Try.func33, Try.ntmps33
  go_wp2_with (go_at_call 31; (with_reducible refine (HN1.out w HB0.out).mono ?_); rintro e w1 hnm1
               obtain ⟨A1, c1, rfl, hs1, hb1⟩ := HNT.out w w1 e hnm1
               have HS1 := Lib.hid hs1
               have HB1 := Lib.hid hb1
               clear hs1 hb1 hnm1)
  go_loopg [6] n (fun (gh : Nat) s6 wx => ∃ i : Nat, gh = n - i ∧ i ≤ n ∧ s6 = .int .i64 (i : Int) ∧ Hid (Below w1.heap.size w1 wx))
  case atStart => exact ⟨0, rfl, Nat.zero_le _, rfl, Below.refl _ _⟩
  case round =>
    obtain ⟨i, rfl, hi, rfl, hinv⟩ := hrel
    have HWX : Hid (Below w.heap.size w wr) := HB1.out.trans (hinv.out.mono HB1.out.size)
    by_cases hlt : i < n
    · obtain ⟨k, hk⟩ : ∃ k, N[i]? = some k := ⟨_, List.getElem?_eq_getElem (by rw [← HNL.out]; exact hlt)⟩
      have hkm : hasL L1 k = true := nmL_has (by rw [← HNN.out]; exact List.mem_of_getElem? hk)
      have hkm2 : hasL L2 k = true := by rw [(HAL.out k).1]; exact hkm
      obtain ⟨g, o, rfl, hg, hcell⟩ : ∃ g o, A1 = some ⟨g, o, none⟩ ∧ g < w1.heap.size ∧ ∀ i s, N[i]? = some s → w1.cell? ⟨g, o + i, none⟩ = some (.string s) := by
        rcases HS1.out with h0 | h0
        · rw [h0] at hk; simp at hk
        · exact h0
      have hck : ∀ W, Below w1.heap.size w1 W → W.cell? ⟨g, o + i, none⟩ = some (.string k) := fun W hW => (hW.cell (p := ⟨g, o + i, none⟩) hg).trans (hcell i k hk)
      have c0 := hck wr hinv.out
      have HCK := Lib.hid hck
      have hr1 := read_two hkm (H1.out.below HWX.out)
      have HR1' := Lib.hid hr1
      have hr2 : ∀ W, Below w.heap.size w W → Calls Try.prog 24 #[.pointer (some ⟨p2, 0, none⟩), .string k] W fun e w' => ∃ A n c, e = .returned (.tuple #[.slice A n c, .bool true]) ∧ BAt w' (.slice A n c) (bytL L1 k) ∧ n = (bytL L1 k).length ∧ Below W.heap.size W w' := fun W hW => by
        have := read_two hkm2 (H2.out.below hW)
        rw [(HAL.out k).2] at this; exact this
      have HR2' := Lib.hid hr2
      have HKL : Hid ((bytL L1 k).length ≤ 2000000) := by
        show _ ≤ _
        have := byt_used L1 k
        have := H1.out.room; omega
      have t1 : (i : Int) < (n : Int) := by omega
      have t2 : (0 : Int) ≤ (i : Int) := by omega
      clear hk hkm hkm2 hcell hck hr1 hr2
      go_wp2_with (first
        | (go_at_call 28; (with_reducible refine (same_eq w3 _ _ _ HA2.out HA3.out HKL.out).mono ?_); rintro e w4 ⟨rfl, hb4⟩
           have HB4 : Hid (Below w1.heap.size w1 w4) := HB3.out.trans (hb4.mono HB3.out.size)
           clear hb4)
        | (go_at_call 24; (with_reducible refine (HR2'.out w2 HW2.out).mono ?_); rintro e w3 ⟨A3, n3, c3, rfl, ha3, rfl, hb3⟩
           have HA2 := Lib.hid (ha2'.out.kept hb3)
           have HA3 := Lib.hid ha3
           have HB3 : Hid (Below w1.heap.size w1 w3) := HB2.out.trans (hb3.mono HB2.out.size)
           clear ha3 hb3)
        | (go_at_call 24; (with_reducible refine HR1'.out.mono ?_); rintro e w2 ⟨A2, n2, c2, rfl, ha2, rfl, hb2⟩
           have ha2' := Lib.hid ha2
           have HB2 : Hid (Below w1.heap.size w1 w2) := hinv.out.trans (hb2.mono hinv.out.size)
           have HW2 : Hid (Below w.heap.size w w2) := HWX.out.trans (hb2.mono HWX.out.size)
           have c0 := HCK.out w2 HB2.out
           clear ha2 hb2))
      go_roundg (n - (i + 1))
      case measure => omega
      case rel => exact ⟨i + 1, rfl, by omega, by go_num, HB4.out⟩
    · obtain rfl : i = n := by omega
      have t1 : decide ((i : Int) < (i : Int)) = false := by simp
      have hb0 : Hid ((uu == uu) = true ∧ (rr == rr) = true) := ⟨by simp, by simp⟩
      have hsm : ∀ W A c A' c', SRd W A N → SRd W A' N → Calls Try.prog 63 #[.slice A i c, .slice A' i c'] W fun e w' => e = .returned (.bool true) ∧ Below W.heap.size W w' := fun W A c A' c' h h' => by
        have := same_strs W A A' c c' N h h' (by rw [← HNL.out]; exact e1)
        rw [← HNL.out] at this; exact this
      have HSM := Lib.hid hsm
      clear hsm
      go_wp2_with (first
        | (go_at_call 26; (with_reducible refine (HR2.out _ HW3.out).mono ?_); rintro e w' ⟨rfl, rfl⟩)
        | (go_at_call 26; (with_reducible refine (HR1.out _ HW3.out).mono ?_); rintro e w' ⟨rfl, rfl⟩)
        | (go_at_call 30; (with_reducible refine (HU2.out _ HW3.out).mono ?_); rintro e w' ⟨rfl, rfl⟩)
        | (go_at_call 30; (with_reducible refine (HU1.out _ HW3.out).mono ?_); rintro e w' ⟨rfl, rfl⟩)
        | (go_at_call 29; (with_reducible refine (HD2.out _ HW3.out).mono ?_); rintro e w' ⟨rfl, rfl⟩)
        | (go_at_call 29; (with_reducible refine (HD1.out _ HW3.out).mono ?_); rintro e w' ⟨rfl, rfl⟩)
        | (go_at_call 63; (with_reducible refine (HSM.out w2 _ _ _ _ HS2.out HS3.out).mono ?_); rintro e w3 ⟨rfl, hb3⟩
           have HW3 : Hid (Below w.heap.size w w3) := HW2.out.trans (hb3.mono HW2.out.size)
           clear hb3)
        | (go_at_call 31; (with_reducible refine (HN2.out wr HWX.out).mono ?_); rintro e w2 hnm2
           obtain ⟨A2, c2, rfl, hs2, hb2⟩ := HNT.out wr w2 e hnm2
           have HS2 := Lib.hid (HS1.out.below (hinv.out.trans (hb2.mono hinv.out.size)))
           have HS3 := Lib.hid hs2
           have HW2 : Hid (Below w.heap.size w w2) := HWX.out.trans (hb2.mono HWX.out.size)
           clear hs2 hb2 hnm2))
      go_ret
      exact ⟨rfl, HW3.out⟩
end Go.Proofs.Ytffeinbbgfogoaa.Sr
