/-
  The stable sort, however many the rows: blocks of twenty, merged till there is one. Conditions: the row is held, less than a million rows.
-/
import Derived.Test.YtflhpijcfiamgaaTSymdIi
import Derived.Test.YtflhpijcfiamgaaTSmallIi
namespace Go.Proofs.Ytflhpijcfiamgaa.Tb.Ii
open Go.RowKit Go.Sort

/-- What holds between the sort's rounds: chunks of s rows are sorted. -/
def StbI (w : World) (g off N : Nat) (l : List R) (s : Nat) (wx : World) : Prop :=
  ∃ d : Array R, d.size = N ∧ ChR d s N 0 ∧ (∀ k, kv d.toList k = kv l k) ∧ SWK enc 2 w g off d wx
/-- Within a round: chunks of t rows are sorted up to a, chunks of s rows from there on. -/
def StbJ (w : World) (g off N : Nat) (l : List R) (s t a : Nat) (wx : World) : Prop :=
  ∃ d : Array R, d.size = N ∧ t ∣ a ∧ ChD d t N a ∧ ChR d s N a ∧ (∀ k, kv d.toList k = kv l k) ∧ SWK enc 2 w g off d wx
/-- In the first round: chunks of twenty rows are sorted up to a. -/
def StbK (w : World) (g off N : Nat) (l : List R) (a : Nat) (wx : World) : Prop :=
  ∃ d : Array R, d.size = N ∧ 20 ∣ a ∧ ChD d 20 N a ∧ (∀ k, kv d.toList k = kv l k) ∧ SWK enc 2 w g off d wx
theorem StbK.next {w : World} {g off N : Nat} {l : List R} {a b : Nat} {w2 : World} {d : Array R} (ht : 20 ∣ a) (hN : b ≤ N) (hD : ChD d 20 N a) (hk : ∀ k, kv d.toList k = kv l k) (h : StepP w g off N a b d w2) (e : b = a + 20) : StbK w g off N l b w2 := by
  obtain ⟨d', h1, h2, h3, h4, h5⟩ := h
  exact ⟨d', h1, by rw [e]; exact Nat.dvd_add ht (Nat.dvd_refl _), by have := hD.next ht (b := b) (by omega) h2 h3; rwa [← e] at this, fun k => by rw [h4, hk], h5⟩
theorem StbK.last {w : World} {g off N : Nat} {l : List R} {a : Nat} {w2 : World} {d : Array R} (ht : 20 ∣ a) (hD : ChD d 20 N a) (hk : ∀ k, kv d.toList k = kv l k) (haN : N ≤ a + 20) (h : StepP w g off N a N d w2) : StbI w g off N l 20 w2 := by
  obtain ⟨d', h1, h2, h3, h4, h5⟩ := h
  have := hD.next ht (b := N) (by omega) h2 h3
  exact ⟨d', h1, this.all haN, fun k => by rw [h4, hk], h5⟩
theorem StbJ.next {w : World} {g off N : Nat} {l : List R} {s t a b : Nat} {w2 : World} {d : Array R} (ht : t ∣ a) (hb : b = min (a + t) N) (hD : ChD d t N a) (hR : ChR d s N a) (hk : ∀ k, kv d.toList k = kv l k) (hab : a ≤ b) (h : StepP w g off N a b d w2) (e : b = a + t) : StbJ w g off N l s t b w2 := by
  obtain ⟨d', h1, h2, h3, h4, h5⟩ := h
  exact ⟨d', h1, by rw [e]; exact Nat.dvd_add ht (Nat.dvd_refl _), by have := hD.next ht hb h2 h3; rwa [← e] at this, hR.next hab h3, fun k => by rw [h4, hk], h5⟩
theorem StbJ.last {w : World} {g off N : Nat} {l : List R} {s t a : Nat} {w2 : World} {d : Array R} (ht : t ∣ a) (hD : ChD d t N a) (_hR : ChR d s N a) (hk : ∀ k, kv d.toList k = kv l k) (haN : N ≤ a + t) (h : StepP w g off N a N d w2) : StbI w g off N l t w2 := by
  obtain ⟨d', h1, h2, h3, h4, h5⟩ := h
  have := hD.next ht (b := N) (by omega) h2 h3
  exact ⟨d', h1, this.all haN, fun k => by rw [h4, hk], h5⟩
theorem StbI.done {w : World} {g off : Nat} {l : List R} {s : Nat} {w2 : World} (hs : l.length ≤ s) (h : StbI w g off l.length l s w2) : Sorted w g off l w2 := by
  obtain ⟨d, h1, h2, h3, h4⟩ := h
  refine ⟨d, h1, ⟨?_, h3⟩, h4⟩
  rcases Nat.eq_zero_or_pos l.length with h0 | h0
  · have : d.toList = [] := List.length_eq_zero_iff.1 (by rw [Array.length_toList]; omega)
    rw [this]
    exact List.Pairwise.nil
  · have h5 := h2 0 (Nat.dvd_zero _) (Nat.le_refl _) h0
    rw [show min (0 + s) l.length = l.length by omega] at h5
    have := srt_of_sin h5 (by omega)
    rwa [List.drop_zero, Nat.sub_zero, List.take_of_length_le (by rw [Array.length_toList]; omega)] at this

set_option maxRecDepth 1000000 in
set_option maxHeartbeats 4000000 in
theorem stable_all (w : World) (g off cap : Nat) (l : List R) (hH : HoldsK enc 2 w g off l.toArray) (hg : g < w.heap.size) (hn : l.length < 1000000) :
    Calls Try.prog 85 #[.slice (some ⟨g, off, none⟩) l.length cap, .int .i64 l.length, .func (.func 70) #[] #[]] w fun e w' => e = .returned (.tuple #[]) ∧ Sorted w g off l w' := by
  have Rw : RowK enc 2 w g off l.toArray := ⟨enc_len, enc_one, hH, hg⟩
  have K0 : Hid (StbK w g off l.length l 0 w) := ⟨l.toArray, by simp, Nat.dvd_zero _, ChD.zero _ _ _, fun k => rfl, SWK.start hH⟩
  have HR := Lib.hid Rw
  clear hH Rw
  obtain ⟨N, hN⟩ : ∃ N, N = l.length := ⟨_, rfl⟩
  have HNN := Lib.hid hN
  have HS : Hid (N = l.toArray.size) := by show _ = _; rw [hN]; simp
  rw [← hN] at K0 hn ⊢
  clear hN
  go_enter Try.func85, Try.ntmps85
  go_wp2
  go_loopg [7, 8] N (fun (gh : Nat) s7 s8 wx => ∃ a b : Nat, gh = N - a ∧ a ≤ N ∧ b = a + 20 ∧ s7 = .int .i64 (a : Int) ∧ s8 = .int .i64 (b : Int) ∧ Hid (StbK w g off N l a wx))
  case atStart => exact ⟨0, 20, rfl, Nat.zero_le _, rfl, rfl, rfl, K0⟩
  case round =>
    clear K0
    obtain ⟨a, b, rfl, haN, hb, rfl, rfl, K1⟩ := hrel
    obtain ⟨d, hdN, hda, hD, hk, hS⟩ := K1.out
    have HB := Lib.hid hb
    by_cases hlt : b ≤ N
    · have t1 : (b : Int) ≤ (N : Int) := by omega
      have r1 : IntKind.i64.wrap ((b : Int) + 20) = (b : Int) + 20 := wrap_fits _ (by omega)
      have HC := Lib.hid (stp_insert w wr g off cap N a b l.toArray d HR.out HS.out (by omega) hS hdN (by omega) hlt)
      have HN := Lib.hid (fun w2 (h : StepP w g off N a b d w2) => StbK.next hda hlt hD hk h hb)
      have HM := Lib.hid (show N - b < N - a by omega)
      clear K1 hdN hda hD hk hS hb
      go_wp2_with (go_at_call 90; refine HC.out.mono ?_; rintro e w2 ⟨rfl, h2⟩; have S2 := Lib.hid (HN.out _ h2); clear h2)
      go_roundg (N - b)
      case measure => exact HM.out
      case rel => exact ⟨b, b + 20, rfl, hlt, rfl, rfl, by go_num, S2⟩
    · have t1 : ¬ (b : Int) ≤ (N : Int) := by omega
      have HC := Lib.hid (stp_insert w wr g off cap N a N l.toArray d HR.out HS.out (by omega) hS hdN haN (Nat.le_refl _))
      have HN := Lib.hid (fun w2 (h : StepP w g off N a N d w2) => StbK.last hda hD hk (by omega) h)
      clear K1 hdN hda hD hk hS hb hlt
      go_wp2_with (go_at_call 90; refine HC.out.mono ?_; rintro e w2 ⟨rfl, h2⟩; have I0 := Lib.hid (HN.out _ h2); clear h2)
      clear HC HN t1 haN HB
      go_loopg [6] (N - 20) (fun (gh : Nat) s6 wx => ∃ s : Nat, gh = N - s ∧ 0 < s ∧ s ≤ 2000000 ∧ s6 = .int .i64 (s : Int) ∧ Hid (StbI w g off N l s wx))
      case atStart => exact ⟨20, rfl, by omega, by omega, rfl, I0⟩
      case round =>
        clear I0
        obtain ⟨s, rfl, hs0, hs1, rfl, I1⟩ := hrel
        by_cases hsN : s < N
        · have t1 : (s : Int) < (N : Int) := by omega
          obtain ⟨t, ht⟩ : ∃ t, t = 2 * s := ⟨_, rfl⟩
          have i1 : 2 * (s : Int) = (t : Int) := by omega
          have i2 : (s : Int) * 2 = (t : Int) := by omega
          have w1 := wrap_nat t (by omega)
          have J0 : Hid (StbJ w g off N l s t 0 wr) := by
            obtain ⟨d, h1, h2, h3, h4⟩ := I1.out
            exact ⟨d, h1, Nat.dvd_zero _, ChD.zero _ _ _, h2, h3, h4⟩
          have HT := Lib.hid ht
          have hst : s < t := by omega
          have htb : t ≤ 4000000 := by omega
          have HST : Hid (s ∣ t) := ⟨2, by omega⟩
          clear I1 ht
          go_wp2
          go_loopg [7, 8] N (fun (gh : Nat) s7 s8 wx => ∃ a b : Nat, gh = N - a ∧ a ≤ N ∧ b = a + t ∧ s7 = .int .i64 (a : Int) ∧ s8 = .int .i64 (b : Int) ∧ Hid (StbJ w g off N l s t a wx))
          case atStart => exact ⟨0, t, rfl, Nat.zero_le _, by omega, rfl, rfl, J0⟩
          case round =>
            clear J0
            obtain ⟨a, b, rfl, haN, hb, rfl, rfl, J1⟩ := hrel
            obtain ⟨d, hdN, hda, hD, hR, hk, hS⟩ := J1.out
            have hsa : s ∣ a := Nat.dvd_trans HST.out hda
            obtain ⟨m, hm⟩ : ∃ m, m = a + s := ⟨_, rfl⟩
            have htt := HT.out
            have hsm : s ∣ m := by rw [hm]; exact Nat.dvd_add hsa (Nat.dvd_refl _)
            have i3 : (a : Int) + (s : Int) = (m : Int) := by omega
            have w3 := wrap_nat m (by omega)
            by_cases hlt : b ≤ N
            · have t2 : (b : Int) ≤ (N : Int) := by omega
              obtain ⟨b', hb'⟩ : ∃ b', b' = b + t := ⟨_, rfl⟩
              have i4 : (b : Int) + (t : Int) = (b' : Int) := by omega
              have w4 := wrap_nat b' (by omega)
              have sL : SIn d a m := by
                have := hR a hsa (Nat.le_refl _) (by omega)
                rwa [show min (a + s) N = m by omega] at this
              have sM : SIn d m b := by
                have := hR m hsm (by omega) (by omega)
                rwa [show min (m + s) N = b by omega] at this
              have HC := Lib.hid (stp_merge w wr g off cap N a m b l.toArray d HR.out HS.out (by omega) hS hdN (by omega) (by omega) hlt sL sM)
              have HN := Lib.hid (fun w2 (h : StepP w g off N a b d w2) => StbJ.next hda (by omega) hD hR hk (by omega) h hb)
              have HM := Lib.hid (show N - b < N - a ∧ b ≤ N ∧ b' = b + t by omega)
              clear J1 hdN hda hD hR hk hS hb hsa hsm hm htt sL sM hb' hlt haN
              go_wp2_with (go_at_call 91; refine HC.out.mono ?_; rintro e w2 ⟨rfl, h2⟩; have S2 := Lib.hid (HN.out _ h2); clear h2)
              go_roundg (N - b)
              case measure => exact HM.out.1
              case rel => exact ⟨b, b', rfl, HM.out.2.1, HM.out.2.2, rfl, rfl, S2⟩
            · have t2 : ¬ (b : Int) ≤ (N : Int) := by omega
              have HM := Lib.hid (show N - t < N - s ∧ 0 < t ∧ t ≤ 2000000 by omega)
              by_cases hmN : m < N
              · have t3 : (m : Int) < (N : Int) := by omega
                have sL : SIn d a m := by
                  have := hR a hsa (Nat.le_refl _) (by omega)
                  rwa [show min (a + s) N = m by omega] at this
                have sM : SIn d m N := by
                  have := hR m hsm (by omega) (by omega)
                  rwa [show min (m + s) N = N by omega] at this
                have HC := Lib.hid (stp_merge w wr g off cap N a m N l.toArray d HR.out HS.out (by omega) hS hdN (by omega) (by omega) (Nat.le_refl _) sL sM)
                have HN := Lib.hid (fun w2 (h : StepP w g off N a N d w2) => StbJ.last hda hD hR hk (by omega) h)
                clear J1 hdN hda hD hR hk hS hb hsa hsm hm htt sL sM hlt haN hmN
                go_wp2_with (go_at_call 91; refine HC.out.mono ?_; rintro e w2 ⟨rfl, h2⟩; have S2 := Lib.hid (HN.out _ h2); clear h2)
                go_roundg (N - t)
                case measure => exact HM.out.1
                case rel => exact ⟨t, rfl, HM.out.2.1, HM.out.2.2, rfl, S2⟩
              · have t3 : ¬ (m : Int) < (N : Int) := by omega
                have S2 : Hid (StbI w g off N l t wr) := by
                  refine StbJ.last hda hD hR hk (by omega) ⟨d, hdN, ?_, fun _ _ => rfl, fun _ => rfl, hS⟩
                  by_cases haN2 : a < N
                  · have := hR a hsa (Nat.le_refl _) haN2
                    rwa [show min (a + s) N = N by omega] at this
                  · intro i j hi hij hj
                    omega
                clear J1 hdN hda hD hR hk hS hb hsa hsm hm htt hlt haN hmN
                go_wp2
                go_roundg (N - t)
                case measure => exact HM.out.1
                case rel => exact ⟨t, rfl, HM.out.2.1, HM.out.2.2, rfl, S2⟩
        · have t1 : ¬ (s : Int) < (N : Int) := by omega
          have HF : Hid (Sorted w g off l wr) := by
            have h := I1.out
            have e := HNN.out
            subst e
            exact h.done (by omega)
          go_wp2
          go_end0
          exact ⟨rfl, HF.out⟩
set_option maxRecDepth 100000 in
theorem sort_all (w : World) (g off cap : Nat) (l : List R) (hH : HoldsK enc 2 w g off l.toArray) (hg : g < w.heap.size) (hn : l.length < 1000000) :
    Calls Try.prog 69 #[.slice (some ⟨g, off, none⟩) l.length cap, .func (.func 70) #[] #[]] w fun e w' => e = .returned (.tuple #[]) ∧ Sorted w g off l w' := by
  have HI := Lib.hid (stable_all w g off cap l hH hg hn)
  clear hH
  go_enter Try.func69, Try.ntmps69
  go_wp2_with (go_at_call 85; refine HI.out.mono ?_; rintro e w' ⟨rfl, hs⟩)
  have HS := Lib.hid hs
  clear hs
  go_end0
  exact ⟨rfl, HS.out⟩
end Go.Proofs.Ytflhpijcfiamgaa.Tb.Ii
