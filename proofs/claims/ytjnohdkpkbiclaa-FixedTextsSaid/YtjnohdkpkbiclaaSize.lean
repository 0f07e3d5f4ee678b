/-
  The contract of the reference's 'size': which of two distances is less. Conditions: both slices read as the digits of a number, without noughts at the top.
-/
import Derived.Test.YtjnohdkpkbiclaaClean
import Derived.Deep.QuietTactic
import Derived.BigQuiet
namespace Go.Proofs.Ytjnohdkpkbiclaa
open Go.RowKit


theorem cmpN_lt {m n : Nat} (h : m < n) : cmpN m n = -1 := by simp [cmpN, h]
theorem cmpN_gt {m n : Nat} (h : n < m) : cmpN m n = 1 := by unfold cmpN; rw [if_neg (by omega), if_pos h]
theorem cmpN_eq (m : Nat) : cmpN m m = 0 := by simp [cmpN]

set_option maxHeartbeats 1000000 in
theorem size_any (w : World) (u v : Value) (x y : Nat) (h : Digs w u (digs x)) (h' : Digs w v (digs y)) :
    Calls Try.prog 40 #[u, v] w fun e w' => e = .returned (.int .i64 (cmpN x y)) ∧ ∃ n, w' = w.drewN n := by
  obtain ⟨A, n, c, rfl⟩ : ∃ A n c, u = .slice A n c := by obtain ⟨A, c, hv, _⟩ := h; exact ⟨A, _, c, hv⟩
  obtain ⟨A', n', c', rfl⟩ : ∃ A n c, v = .slice A n c := by obtain ⟨A, c, hv, _⟩ := h'; exact ⟨A, _, c, hv⟩
  obtain ⟨hn, hc, hm⟩ := h.len
  obtain ⟨hn', hc', hm'⟩ := h'.len
  have hb : n ≤ 9223372036854775807 := by unfold maxLen at hm; omega
  have hb' : n' ≤ 9223372036854775807 := by unfold maxLen at hm'; omega
  rcases Nat.lt_trichotomy n n' with hlt | heq | hgt
  · rw [cmpN_lt (digs_lt_of_len (by omega))]
    have hne : ((n : Int) == n') = false := by simp; omega
    have hne' : ((n : Int) != n') = true := by simp; omega
    clear hm hm' h h' hn hn' hc hc'
    go_enter Try.func40, Try.ntmps40
    go_wp2
    go_ret
    exact ⟨rfl, 0, rfl⟩
  · subst heq
    have H := Lib.hid h
    have H' := Lib.hid h'
    have HN := Lib.hid hn
    have HN' := Lib.hid hn'
    clear h h' hn hn' hm hm'
    go_enter Try.func40, Try.ntmps40
    go_wp2
    go_loopg [5] n (fun (g : Nat) i wx => ∃ m, w.drewN m = wx ∧ i = .int .i64 ((g : Int) - 1) ∧ g ≤ n ∧ Hid (∀ j, g ≤ j → (digs x).getD j 0 = (digs y).getD j 0))
    case atStart => exact ⟨0, rfl, rfl, Nat.le_refl _, fun j hj => by
      have e1 := HN.out
      have e2 := HN'.out
      rw [List.getD_eq_getElem?_getD, List.getElem?_eq_none (by omega), List.getD_eq_getElem?_getD, List.getElem?_eq_none (by omega)]⟩
    case round =>
      obtain ⟨m, rfl, rfl, hg, hz⟩ := hrel
      rcases gk with _ | k
      · have hres : Hid (cmpN x y = 0) := by
          have := val_eq_of_digits (a := digs x) (b := digs y) (fun i => hz.out i (Nat.zero_le _))
          rw [val_digs, val_digs] at this
          have : x = y := by omega
          rw [this]; exact cmpN_eq y
        go_wp2
        go_ret
        exact ⟨ret_int hres.out.symm, _, by first | rfl | (simp only [World.drewN_drewN]; rfl)⟩
      · obtain ⟨G, rfl, _, hcell⟩ := H.out.some (by omega)
        obtain ⟨G', rfl, _, hcell'⟩ := H'.out.some (by omega)
        obtain ⟨d, hd⟩ : ∃ d, d = (digs x).getD k 0 := ⟨_, rfl⟩
        obtain ⟨d', hd'⟩ : ∃ d, d = (digs y).getD k 0 := ⟨_, rfl⟩
        have hck := hcell k (by omega)
        have hck' := hcell' k (by omega)
        rw [← hd] at hck
        rw [← hd'] at hck'
        have HD := Lib.hid hd
        have HD' := Lib.hid hd'
        clear hd hd' hcell hcell'
        have key := fun (a b : List Int) (ha : InR a) (hb : InR b) (hl : a.length = b.length) (h1 : k < a.length) (hs : ∀ i, k < i → a.getD i 0 = b.getD i 0) (hd : a.getD k 0 < b.getD k 0) => val_lt_of_digit ha hb hl h1 hs hd
        rcases Int.lt_trichotomy d d' with hl | he | hg'
        · have hres : Hid (cmpN x y = -1) := cmpN_lt (by
            have := key _ _ (digs_inR x) (digs_inR y) (by rw [← HN.out, ← HN'.out]) (by rw [← HN.out]; omega) (fun i hi => hz.out i hi) (by rw [← HD.out, ← HD'.out]; exact hl)
            rw [val_digs, val_digs] at this; omega)
          clear key
          go_wp2
          go_quiet (fail)
          go_wp2
          go_ret
          exact ⟨ret_int hres.out.symm, _, by first | rfl | (simp only [World.drewN_drewN]; rfl)⟩
        · clear key
          subst he
          go_wp2
          go_quiet (fail)
          go_wp2
          go_quiet (fail)
          go_wp2
          go_roundg k
          case measure => omega
          case rel => exact ⟨_, by first | rfl | (simp only [World.drewN_drewN]; rfl), rfl, by omega, fun j hj => by
            rcases Nat.eq_or_lt_of_le hj with rfl | hj
            · rw [← HD.out, ← HD'.out]
            · exact hz.out j hj⟩
        · have hres : Hid (cmpN x y = 1) := cmpN_gt (by
            have := key _ _ (digs_inR y) (digs_inR x) (by rw [← HN.out, ← HN'.out]) (by rw [← HN'.out]; omega) (fun i hi => (hz.out i hi).symm) (by rw [← HD.out, ← HD'.out]; exact hg')
            rw [val_digs, val_digs] at this; omega)
          clear key
          have hnl : ¬ d < d' := by omega
          go_wp2
          go_quiet (fail)
          go_wp2
          go_quiet (fail)
          go_wp2
          go_ret
          exact ⟨ret_int hres.out.symm, _, by first | rfl | (simp only [World.drewN_drewN]; rfl)⟩
  · rw [cmpN_gt (digs_lt_of_len (by omega))]
    have hne : ((n : Int) == n') = false := by simp; omega
    have hne' : ((n : Int) != n') = true := by simp; omega
    clear hm hm' h h' hn hn' hc hc'
    go_enter Try.func40, Try.ntmps40
    go_wp2
    go_ret
    exact ⟨rfl, 0, rfl⟩
end Go.Proofs.Ytjnohdkpkbiclaa
