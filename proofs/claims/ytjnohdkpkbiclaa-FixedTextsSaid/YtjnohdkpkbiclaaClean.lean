/-
  The contract of the reference's 'clean': noughts at the top cut off, nought not below 0. Conditions: the slice reads as digits below 65536.
-/
import Derived.Test.YtjnohdkpkbiclaaDigs
import Derived.Test.YtjnohdkpkbiclaaMath
import Derived.Test.YtjnohdkpkbiclaaRows
import Derived.WalkLawsBesides
import Derived.Deep.LoopGhost
import Derived.Lib.Hide
import Derived.Outline
namespace Go.Proofs.Ytjnohdkpkbiclaa
open Go.RowKit

/-- The value reads as the document's number z: its digits without noughts at the top. -/
def NumIs (w : World) (v : Value) (z : Int) : Prop := ∃ A n c, v = .agg #[.bool (decide (z < 0)), .slice A n c] ∧ Digs w (.slice A n c) (digs z.natAbs)

set_option maxHeartbeats 400000 in
theorem clean_any (w : World) (neg : Bool) (A : Option Addr) (n c : Nat) (ds : List Int) (h : Digs w (.slice A n c) ds) :
    Calls Try.prog 39 #[.agg #[.bool neg, .slice A n c]] w fun e w' =>
      ∃ k, k ≤ n ∧ (∀ i, k ≤ i → ds.getD i 0 = 0) ∧ (k = 0 ∨ ds.getD (k - 1) 0 ≠ 0) ∧ e = .returned (.agg #[.bool (neg && !(k == 0)), .slice A k c]) ∧ Below w.heap.size w w' := by
  obtain ⟨hn, hc, hm⟩ := h.len
  have hm' : n ≤ 9223372036854775807 := by unfold maxLen at hm; omega
  have H := Lib.hid h
  have HN := Lib.hid hn
  clear h hn hm
  go_enter Try.func39, Try.ntmps39
  go_wp2
  go_loopg [] n (fun (g : Nat) wx => ((w.alloc (.cells #[.bool neg, .slice A g c] 25)).alloc (.cells #[.bool false, .slice none 0 0] 25)) = wx ∧ g ≤ n ∧ Hid (∀ i, g ≤ i → ds.getD i 0 = 0))
  case atStart => exact ⟨rfl, Nat.le_refl _, fun i hi => by rw [List.getD_eq_getElem?_getD, List.getElem?_eq_none (by have := HN.out; omega)]; rfl⟩
  case round =>
    obtain ⟨rfl, hg, hz⟩ := hrel
    rcases gk with _ | k
    · go_wp2
      exact bodyPost_ret (v := .agg #[.bool false, .slice A 0 c]) (by simp [results, Try.results39, go_sem]) rfl ⟨0, Nat.zero_le _, hz.out, .inl rfl, by simp, ((Below.refl _ _).alloc (Nat.le_refl _) _).alloc (by simp) _⟩
    · obtain ⟨G, rfl, hGw, hcell⟩ := H.out.some (by omega)
      obtain ⟨d, hd⟩ : ∃ d, d = ds.getD k 0 := ⟨_, rfl⟩
      have hck := hcell k (by omega)
      rw [← hd] at hck
      
      have HD := Lib.hid hd
      clear hd hcell
      by_cases h0 : d = 0
      · subst h0
        go_wp2
        go_roundg k
        case measure => omega
        case rel => exact ⟨rfl, by omega, fun i hi => by
          rcases Nat.eq_or_lt_of_le hi with rfl | hi
          · exact HD.out.symm
          · exact hz.out i hi⟩
      · go_wp2
        exact bodyPost_ret (v := .agg #[.bool neg, .slice (some ⟨G, 0, none⟩) (k + 1) c]) (by simp [results, Try.results39, go_sem]) rfl ⟨k + 1, hg, hz.out, .inr (by rw [Nat.add_sub_cancel, ← HD.out]; exact h0), by simp, ((Below.refl _ _).alloc (Nat.le_refl _) _).alloc (by simp) _⟩

/-- The same, as a number. -/
theorem clean_num (w : World) (neg : Bool) (s : Value) (ds : List Int) (z : Int) (h : Digs w s ds) (hr : InR ds) (hz : z = if neg then - val ds else val ds) :
    Calls Try.prog 39 #[.agg #[.bool neg, s]] w fun e w' => ∃ v, e = .returned v ∧ NumIs w' v z ∧ Below w.heap.size w w' := by
  obtain ⟨A, n, c, rfl⟩ : ∃ A n c, s = .slice A n c := by obtain ⟨A, c, hv, _⟩ := h; exact ⟨A, _, c, hv⟩
  refine (clean_any w neg A n c ds h).mono ?_
  rintro e w' ⟨k, hk, hz1, ht, rfl, hb⟩
  have hn := h.len.1
  have hs := strip_eq hr (by omega) hz1 ht
  have hv := val_nonneg hr
  have hab : z.natAbs = (val ds).toNat := by subst hz; cases neg <;> simp <;> omega
  refine ⟨_, rfl, ⟨A, k, c, ?_, ?_⟩, hb⟩
  · have hk0 : k = 0 ↔ val ds = 0 := by
      have h1 := digs_nil_iff (val ds).toNat
      rw [← hs, List.length_take] at h1
      omega
    have : (neg && !(k == 0)) = decide (z < 0) := by
      subst hz
      cases neg
      · simp; omega
      · show (true && !(k == 0)) = decide (- val ds < 0)
        by_cases h0 : k = 0
        · have := hk0.1 h0; rw [this]; simp [h0]
        · have := mt hk0.2 h0; rw [decide_eq_true (show - val ds < 0 by omega)]; simp [h0]
    rw [this]
  · rw [hab, ← hs]
    exact (h.below hb (Nat.le_refl _)).take hk
end Go.Proofs.Ytjnohdkpkbiclaa
