/-
  The reference's five changes beside the store's, in the store's own functions. Conditions: at most 997 files, 100000 bytes; a room of at most 1048576; a piece of at most a thousand.
-/
import Derived.Test.YtffeinbbgfogoaaSRcw
namespace Go.Proofs.Ytffeinbbgfogoaa.Sr
open Go.RowKit Fr

theorem rdy_zero {d : Bool} {k : ByteArray} (h : rdy d [k] = 0) : d = false ∧ okN k = true := by
  rw [rdy_one] at h
  cases d <;> cases hk : okN k <;> simp [hk] at h ⊢
theorem Rl.fin {s1 s' : S} {x' : RS} (h : Rl { s1 with used := (usedL x'.D : Int) } x') (e : s' = { s1 with used := (usedL x'.D : Int) }) : Rl s' x' := by rw [e]; exact h
/-- What all five ask for. -/
structure Fit (w : World) (q : Nat) (x : RS) (s : S) : Prop where
  st : RfR w q x
  rl : Rl s x
  used : usedL x.D ≤ 100000
  few : x.D.length + 3 ≤ 1000
  room : 0 ≤ s.room ∧ s.room ≤ 1048576
theorem used_al {D D' : List Fi} (h : SrtL D) (h' : SrtL D') (k : ByteArray) {l : List Int} (ha : Alike (putL D k (dv, l)) D') : usedL D' + (bytL D k).length = usedL D + l.length := by
  rw [same_used (keys_put h.keys _ _) h'.keys ha]; exact used_put
theorem append_ref {w : World} {q : Nat} {x : RS} {s : S} (k : ByteArray) {A : Option Addr} {n c : Nat} {bs : List Int} (h : Fit w q x s) (hn : n ≤ 1000) (hbs : bs.length = n) (hv : ∀ w', Off (fun i => i = q) w w' → BAt w' (.slice A n c) bs) :
    Calls Try.prog 12 #[.pointer (some ⟨q, 0, none⟩), .string k, .slice A n c] w fun e w' => e = .returned (.int .i64 (appE s k n)) ∧ RTo w w' q x (appS s k n) (appL s x.D k bs) := by
  unfold appE appS appL
  rw [hbs]
  by_cases h1 : rdy s.d [k] = 0
  · obtain ⟨hd, hk⟩ := rdy_zero h1
    rw [if_neg (fun h => h h1)]
    by_cases h2 : s.room < s.used + n
    · rw [if_pos h2, if_neg (show ¬ appB s k n from fun h => h.2 h2), if_neg (show ¬ appB s k n from fun h => h.2 h2)]
      exact rapp_full k A n c h.st h.rl hd hk h.used hn h2 h.room
    · rw [if_neg h2, if_pos (show appB s k n from ⟨h1, h2⟩), if_pos (show appB s k n from ⟨h1, h2⟩)]
      refine (rapp_on k h.st h.rl hd hk h.used hn h2 h.room h.few hbs hv).mono ?_
      rintro e w' ⟨rfl, x', hm, hl, ha⟩
      refine ⟨rfl, x', hm, ha, hl.fin ?_⟩
      have hu := useN_le s n h.rl.left
      have hks := useS_keeps s n (by omega) h.rl.left
      by_cases h3 : 0 < useN s n ∨ n = 0
      · rw [if_pos h3] at ha ⊢
        have := used_al h.st.srt hm.st.srt k ha
        rw [List.length_append, List.length_take, hbs] at this
        have e1 : s.used + useN s n = (usedL x'.D : Int) := by rw [h.rl.used]; omega
        rw [e1]
      · rw [if_neg h3] at ha ⊢
        have e1 : (useS s n).used = (usedL x'.D : Int) := by rw [hks.1, h.rl.used, same_used h.st.srt.keys hm.st.srt.keys ha]
        rw [← e1]
  · rw [if_pos h1, if_neg (show ¬ appB s k n from fun h => h1 h.1), if_neg (show ¬ appB s k n from fun h => h1 h.1)]
    exact rapp_early k A n c h.st h.rl h1
theorem write_ref {w : World} {q : Nat} {x : RS} {s : S} (k : ByteArray) {A : Option Addr} {n c : Nat} {bs : List Int} (h : Fit w q x s) (hn : n ≤ 1000) (hbs : bs.length = n) (hv : ∀ w', Off (fun i => i = q) w w' → BAt w' (.slice A n c) bs) :
    Calls Try.prog 14 #[.pointer (some ⟨q, 0, none⟩), .string k, .slice A n c] w fun e w' => e = .returned (.int .i64 (wriE s x.D k n)) ∧ RTo w w' q x (wriS s x.D k n) (wriL s x.D k bs) := by
  unfold wriE wriS wriL
  rw [hbs]
  by_cases h1 : rdy s.d [k] = 0
  · obtain ⟨hd, hk⟩ := rdy_zero h1
    rw [if_neg (fun h => h h1)]
    by_cases h2 : s.room < s.used - ((bytL x.D k).length : Int) + n
    · rw [if_pos h2, if_neg (show ¬ wriB s x.D k n from fun h => h.2 h2), if_neg (show ¬ wriB s x.D k n from fun h => h.2 h2)]
      exact rwri_full k h.st h.rl hd hk h.used hn h.room h2
    · rw [if_neg h2, if_pos (show wriB s x.D k n from ⟨h1, h2⟩), if_pos (show wriB s x.D k n from ⟨h1, h2⟩)]
      by_cases h4 : useN s 1 = 1
      · refine (rwri_on k h.st h.rl hd hk h.used hn h.room h2 h4 h.few hbs hv).mono ?_
        rintro e w' ⟨rfl, x', hm, ha, hl⟩
        obtain ⟨g1, g2⟩ := use_split h.rl.left h4 n
        have hle := useN_le (useS s 1) n (useS_left (s := s) h.rl.left 1)
        have h3 : 0 < useN s (1 + (n : Int)) := by rw [g2]; omega
        rw [if_pos h3, if_pos h3]
        refine ⟨rfl, x', hm, ha, hl.fin ?_⟩
        have := used_al h.st.srt hm.st.srt k ha
        rw [List.length_take, hbs] at this
        have e1 : s.used + (useN s (1 + (n : Int)) - 1 - ((bytL x.D k).length : Int)) = (usedL x'.D : Int) := by rw [h.rl.used]; omega
        rw [e1]
      · have h5 : x.lf = 0 ∧ s.a = true ∧ s.n = 0 := by
          have hlf := h.rl.lf
          unfold useN at h4
          split at h4
          · rename_i h6
            have := h.rl.left h6.1
            rw [if_pos h6.1] at hlf
            exact ⟨by omega, h6.1, by omega⟩
          · exact absurd rfl h4
        have e1 : useS s (1 + (n : Int)) = useS s 1 := by
          unfold useS
          rw [if_pos h5.2.1, if_pos h5.2.1, if_pos (by omega), if_pos (by omega)]
        have e2 : useN s (1 + (n : Int)) = 0 := by
          unfold useN
          rw [if_pos ⟨h5.2.1, by omega⟩]; exact h5.2.2
        have e3 : dwn (useS s 1) = 14 := by
          have e4 : useS s 1 = { s with n := 0, d := true } := by
            unfold useS
            rw [if_pos h5.2.1, if_pos (show s.n < 1 by omega)]
          rw [e4]; rfl
        rw [e1, e2, e3, if_neg (show ¬ (0 : Int) < 0 by omega), if_neg (show ¬ (0 : Int) < 0 by omega)]
        exact rwri_down k h.st h.rl hd hk h.used hn h.room h2 h4
  · rw [if_pos h1, if_neg (show ¬ wriB s x.D k n from fun h => h1 h.1), if_neg (show ¬ wriB s x.D k n from fun h => h1 h.1)]
    exact rwri_early k A n c h.st h.rl h1
theorem dwn_no {s : S} (h4 : useN s 1 ≠ 1) : dwn (useS s 1) = 14 := by
  unfold useN at h4
  split at h4
  · rename_i h6
    have e4 : useS s 1 = { s with n := 0, d := true } := by
      unfold useS
      rw [if_pos h6.1, if_pos h6.2]
    rw [e4]; rfl
  · exact absurd rfl h4
theorem dwn_yes {s : S} (_h : s.a = true → 0 ≤ s.n ∧ s.n ≤ 9223372036854775807) (hd : s.d = false) (h4 : useN s 1 = 1) : dwn (useS s 1) = 0 := by
  unfold useS dwn
  by_cases ha : s.a = true
  · rw [if_pos ha]
    by_cases hl : s.n < 1
    · unfold useN at h4
      rw [if_pos ⟨ha, hl⟩] at h4
      omega
    · rw [if_neg hl]; simp [hd]
  · rw [if_neg ha]; simp [hd]
theorem drop_ref {w : World} {q : Nat} {x : RS} {s : S} (k : ByteArray) (h : Fit w q x s) :
    Calls Try.prog 20 #[.pointer (some ⟨q, 0, none⟩), .string k] w fun e w' => e = .returned (.int .i64 (drpE s x.D k)) ∧ RTo w w' q x (drpS s x.D k) (drpL s x.D k) := by
  unfold drpE drpS drpL
  by_cases h1 : fnd s.d x.D k [k] = 0
  · have hd : s.d = false := by rw [fnd_one] at h1; exact (fv_zero h1).1
    rw [if_neg (fun h => h h1), if_pos h1]
    by_cases h4 : useN s 1 = 1
    · rw [if_pos h4, if_pos ⟨h1, h4⟩, dwn_yes h.rl.left hd h4]
      refine (rdrop_on k h.st h.rl h1 h4).mono ?_
      rintro e w' ⟨rfl, x', hm, hx, hl⟩
      refine ⟨rfl, x', hm, by rw [hx]; exact Alike.refl _, hl.fin ?_⟩
      have := used_del x.D k
      have e1 : s.used - ((bytL x.D k).length : Int) = (usedL x'.D : Int) := by rw [hx, h.rl.used]; omega
      rw [e1]
    · rw [if_neg h4, if_neg (fun h => h4 h.2), dwn_no h4]
      exact rdrop_down k h.st h.rl h1 h4
  · rw [if_pos h1, if_neg h1, if_neg (fun h => h1 h.1)]
    exact rdrop_no k h.st h.rl h1
theorem rename_ref {w : World} {q : Nat} {x : RS} {s : S} (k tn : ByteArray) (h : Fit w q x s) :
    Calls Try.prog 18 #[.pointer (some ⟨q, 0, none⟩), .string k, .string tn] w fun e w' => e = .returned (.int .i64 (renE s x.D k tn)) ∧ RTo w w' q x (renS s x.D k tn) (renL s x.D k tn) := by
  unfold renE renS renL
  by_cases h1 : fnd s.d x.D k [tn, k] = 0
  · have hd : s.d = false := by rw [fnd_two] at h1; exact (fv_zero h1).1
    rw [if_neg (fun h => h h1), if_pos h1]
    by_cases h4 : useN s 1 = 1
    · rw [if_pos ⟨h1, h4⟩, dwn_yes h.rl.left hd h4]
      refine (rrename_on k tn h.st h.rl h1 h4 (by have := h.few; omega)).mono ?_
      rintro e w' ⟨rfl, x', hm, ha, hl⟩
      refine ⟨rfl, x', hm, ha, hl.fin ?_⟩
      rw [same_used (keys_put (keys_del h.st.srt.keys k) _ _) hm.st.srt.keys ha]
    · rw [if_neg (fun h => h4 h.2), dwn_no h4]
      refine (rrename_down k tn h.st h.rl h1 h4).mono ?_
      rintro e w' ⟨rfl, x', hm, ha, hl⟩
      refine ⟨rfl, x', hm, ha, ?_⟩
      have e1 : (useS s 1).used = (usedL x.D : Int) := by rw [(useS_keeps s 1 (by omega) h.rl.left).1]; exact h.rl.used
      rw [← e1]; exact hl
  · rw [if_pos h1, if_neg h1, if_neg (fun h => h1 h.1)]
    exact rrename_no k tn h.st h.rl h1
theorem cut_ref {w : World} {q : Nat} {x : RS} {s : S} (k : ByteArray) (z : Int) (h : Fit w q x s) :
    Calls Try.prog 16 #[.pointer (some ⟨q, 0, none⟩), .string k, .int .i64 z] w fun e w' => e = .returned (.int .i64 (cutE s x.D k z)) ∧ RTo w w' q x (cutS s x.D k z) (cutL s x.D k z) := by
  unfold cutE cutS cutL
  by_cases h1 : fnd s.d x.D k [k] = 0
  · have hd : s.d = false := by rw [fnd_one] at h1; exact (fv_zero h1).1
    rw [if_neg (fun h => h h1)]
    by_cases h2 : z < 0 ∨ ((bytL x.D k).length : Int) < z
    · rw [if_pos h2, if_neg (show ¬ cutB s x.D k z from fun h => h.2 h2), if_neg (show ¬ cutB s x.D k z from fun h => h.2 h2)]
      exact rcut_arg k z h.st h.rl h1 h2
    · rw [if_neg h2, if_pos (show cutB s x.D k z from ⟨h1, h2⟩), if_pos (show cutB s x.D k z from ⟨h1, h2⟩)]
      by_cases h4 : useN s 1 = 1
      · rw [if_pos h4, if_pos h4, dwn_yes h.rl.left hd h4]
        obtain ⟨m, rfl⟩ : ∃ m : Nat, z = m := ⟨z.toNat, by omega⟩
        refine (rcut_on k m h.st h.rl h1 (by omega) h4 h.used (by have := h.few; omega)).mono ?_
        rintro e w' ⟨rfl, x', hm, ha, _, hl⟩
        refine ⟨rfl, x', hm, ha, hl.fin ?_⟩
        have := used_al h.st.srt hm.st.srt k ha
        rw [List.length_take] at this
        have e1 : s.used + ((m : Int) - ((bytL x.D k).length : Int)) = (usedL x'.D : Int) := by rw [h.rl.used]; omega
        rw [e1]
      · rw [if_neg h4, if_neg h4, dwn_no h4]
        exact rcut_down k z h.st h.rl h1 h2 h4
  · rw [if_pos h1, if_neg (show ¬ cutB s x.D k z from fun h => h1 h.1), if_neg (show ¬ cutB s x.D k z from fun h => h1 h.1)]
    exact rcut_no k z h.st h.rl h1
end Go.Proofs.Ytffeinbbgfogoaa.Sr
