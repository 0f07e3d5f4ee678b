/-
  Every change of a store, in one contract each: what it tells, the cells and the files that it leaves. Conditions: a store; bytes that lie outside it, at most a million.
-/
import Derived.Test.YtklngdmpledgeaaGreatSCut
import Derived.Test.YtklngdmpledgeaaGreatJZ17
import Derived.Test.YtklngdmpledgeaaGreatJZ18
import Derived.Test.YtklngdmpledgeaaGreatSWri
namespace Go.Proofs.YtklngdmpledgeaaGreat.Sr
open Go.RowKit Fr

def dv : Value := .slice none 0 0
theorem Alike.refl (L : List Fi) : Alike L L := fun _ => ⟨rfl, rfl⟩
theorem Alike.symm {L L' : List Fi} (h : Alike L L') : Alike L' L := fun k => ⟨(h k).1.symm, (h k).2.symm⟩
theorem Alike.trans {L L' L'' : List Fi} (h : Alike L L') (h' : Alike L' L'') : Alike L L'' := fun k => ⟨(h' k).1.trans (h k).1, (h' k).2.trans (h k).2⟩
theorem Alike.put {L L' : List Fi} (h : Alike L L') (k : ByteArray) (v v' : Value) (l : List Int) : Alike (putL L k (v, l)) (putL L' k (v', l)) := fun j => by
  rw [has_put, has_put, byt_put, byt_put, (h j).1, (h j).2]
  exact ⟨rfl, rfl⟩
theorem Alike.del {L L' : List Fi} (h : Alike L L') (hk : KeysL L) (hk' : KeysL L') (k : ByteArray) : Alike (delL L k) (delL L' k) := fun j => by
  rw [has_del hk, has_del hk', byt_del hk, byt_del hk', (h j).1, (h j).2]
  exact ⟨rfl, rfl⟩
theorem keys_put {L : List Fi} (h : KeysL L) (k : ByteArray) (z : Value × List Int) : KeysL (putL L k z) := pair_put _ h h fun _ _ hn => ⟨hn, hn.symm⟩
theorem keys_del {L : List Fi} (h : KeysL L) (k : ByteArray) : KeysL (delL L k) := h.sublist (del_sub L k)

/-- Behind a step: these cells; files that are alike these. -/
def Mo (w w' : World) (p : Nat) (mb : Option Nat) (L : List Fi) (s' : S) (Lc : List Fi) : Prop := ∃ mb' L', Mv w w' p mb L s' mb' L' ∧ Alike Lc L'
theorem Mo.of {w w' : World} {p : Nat} {mb mb' : Option Nat} {L L' : List Fi} {s' : S} (h : Mv w w' p mb L s' mb' L') : Mo w w' p mb L s' L' := ⟨mb', L', h, Alike.refl _⟩

/-! ### Append -/
def appB (s : S) (k : ByteArray) (m : Nat) : Prop := rdy s.d [k] = 0 ∧ ¬ s.room < s.used + m
instance (s : S) (k : ByteArray) (m : Nat) : Decidable (appB s k m) := inferInstanceAs (Decidable (_ ∧ _))
def appE (s : S) (k : ByteArray) (m : Nat) : Int := if rdy s.d [k] ≠ 0 then rdy s.d [k] else if s.room < s.used + m then 7 else dwn (useS s m)
def appS (s : S) (k : ByteArray) (m : Nat) : S := if appB s k m then (if 0 < useN s m ∨ m = 0 then { useS s m with used := s.used + useN s m } else useS s m) else s
def appL (s : S) (L : List Fi) (k : ByteArray) (bs : List Int) : List Fi := if appB s k bs.length then (if 0 < useN s bs.length ∨ bs.length = 0 then putL L k (dv, bytL L k ++ bs.take (useN s bs.length).toNat) else L) else L
theorem Append_any {w : World} {p : Nat} {s : S} {mb : Option Nat} {L : List Fi} (k : ByteArray) {A : Option Addr} {n c : Nat} {bs : List Int} (h : StR w p s mb L) (hn : n ≤ 1000000) (hbs : bs.length = n) (hv : ∀ w', Off (own p mb L) w w' → BAt w' (.slice A n c) bs) :
    Calls Tryz.prog 58 #[.pointer (some ⟨p, 0, none⟩), .string k, .slice A n c] w fun e w' => e = .returned (.int .i64 (appE s k n)) ∧ Mo w w' p mb L (appS s k n) (appL s L k bs) := by
  subst hbs
  unfold appE appS appL
  by_cases hr : rdy s.d [k] = 0
  · by_cases hf : s.room < s.used + (bs.length : Int)
    · refine (append_full w p s mb L k A _ c h hr hf hn).mono ?_
      rintro e w' ⟨rfl, hm⟩
      rw [if_neg (fun h => h hr), if_pos hf, if_neg (fun h => h.2 hf), if_neg (fun h => h.2 hf)]
      exact ⟨rfl, Mo.of hm⟩
    · have hB : appB s k bs.length := ⟨hr, hf⟩
      rw [if_neg (fun h => h hr), if_neg hf, if_pos hB, if_pos hB]
      have hu := useN_le s bs.length h.left
      by_cases h0 : bs.length = 0
      · have hz : useN s (bs.length : Int) = 0 := by omega
        rw [if_pos (.inr h0), if_pos (.inr h0), hz, h0]
        rw [h0] at hv
        refine (append_zero w p s mb L k A c h hr).mono ?_
        rintro e w' ⟨rfl, mb', v', hm⟩
        refine ⟨rfl, mb', putL L k (v', bytL L k), ?_, ?_⟩
        · have e1 : s.used + 0 = s.used := Int.add_zero _
          rw [e1]; exact hm
        · rw [show bytL L k ++ bs.take (0 : Int).toNat = bytL L k by simp]
          exact (Alike.refl L).put k dv v' _
      · by_cases hm : useN s (bs.length : Int) = 0
        · rw [if_neg (by omega), if_neg (by omega)]
          refine (append_down w p s mb L k A _ c h hr hf hn (by omega) hm).mono ?_
          rintro e w' ⟨rfl, hmv⟩
          exact ⟨rfl, Mo.of hmv⟩
        · rw [if_pos (.inl (by omega)), if_pos (.inl (by omega))]
          obtain ⟨m, hm2⟩ : ∃ m : Nat, useN s (bs.length : Int) = (m : Int) := ⟨(useN s (bs.length : Int)).toNat, by omega⟩
          rw [hm2]
          refine (append_put w p s mb L k A _ c bs m h hr hf hn rfl hm2 (by omega) hv).mono ?_
          rintro e w' ⟨rfl, mb', v', hmv⟩
          exact ⟨rfl, mb', _, hmv, (Alike.refl L).put k dv v' _⟩
  · refine (append_bad w p s mb L k (.slice A bs.length c) h hr).mono ?_
    rintro e w' ⟨rfl, hm⟩
    rw [if_pos hr, if_neg (fun h => hr h.1), if_neg (fun h => hr h.1)]
    exact ⟨rfl, Mo.of hm⟩

/-! ### Write -/
def wriB (s : S) (L : List Fi) (k : ByteArray) (m : Nat) : Prop := rdy s.d [k] = 0 ∧ ¬ s.room < s.used - ((bytL L k).length : Int) + m
instance (s : S) (L : List Fi) (k : ByteArray) (m : Nat) : Decidable (wriB s L k m) := inferInstanceAs (Decidable (_ ∧ _))
def wriE (s : S) (L : List Fi) (k : ByteArray) (m : Nat) : Int := if rdy s.d [k] ≠ 0 then rdy s.d [k] else if s.room < s.used - ((bytL L k).length : Int) + m then 7 else dwn (useS s (1 + (m : Int)))
def wriS (s : S) (L : List Fi) (k : ByteArray) (m : Nat) : S := if wriB s L k m then (if 0 < useN s (1 + (m : Int)) then { useS s (1 + (m : Int)) with used := s.used + (useN s (1 + (m : Int)) - 1 - ((bytL L k).length : Int)) } else useS s (1 + (m : Int))) else s
def wriL (s : S) (L : List Fi) (k : ByteArray) (bs : List Int) : List Fi := if wriB s L k bs.length then (if 0 < useN s (1 + (bs.length : Int)) then putL L k (dv, bs.take (useN s (1 + (bs.length : Int)) - 1).toNat) else L) else L
theorem Write_any {w : World} {p : Nat} {s : S} {mb : Option Nat} {L : List Fi} (k : ByteArray) {A : Option Addr} {n c : Nat} {bs : List Int} (h : StR w p s mb L) (hn : n ≤ 1000000) (hbs : bs.length = n) (hv : ∀ w', Off (own p mb L) w w' → BAt w' (.slice A n c) bs) :
    Calls Tryz.prog 5 #[.pointer (some ⟨p, 0, none⟩), .string k, .slice A n c] w fun e w' => e = .returned (.int .i64 (wriE s L k n)) ∧ Mo w w' p mb L (wriS s L k n) (wriL s L k bs) := by
  subst hbs
  unfold wriE wriS wriL
  by_cases hr : rdy s.d [k] = 0
  · by_cases hf : s.room < s.used - ((bytL L k).length : Int) + (bs.length : Int)
    · refine (write_full w p s mb L k A _ c h hr hf hn).mono ?_
      rintro e w' ⟨rfl, hm⟩
      rw [if_neg (fun h => h hr), if_pos hf, if_neg (fun h => h.2 hf), if_neg (fun h => h.2 hf)]
      exact ⟨rfl, Mo.of hm⟩
    · have hB : wriB s L k bs.length := ⟨hr, hf⟩
      rw [if_neg (fun h => h hr), if_neg hf, if_pos hB, if_pos hB]
      have hu := useN_le s (1 + bs.length) h.left
      have hc : ((1 + bs.length : Nat) : Int) = 1 + (bs.length : Int) := by omega
      rw [hc] at hu
      by_cases hm : useN s (1 + (bs.length : Int)) = 0
      · rw [if_neg (by omega), if_neg (by omega)]
        refine (write_down w p s mb L k A _ c h hr hf hn hm).mono ?_
        rintro e w' ⟨rfl, hmv⟩
        exact ⟨rfl, Mo.of hmv⟩
      · rw [if_pos (by omega), if_pos (by omega)]
        obtain ⟨m, hm2⟩ : ∃ m : Nat, useN s (1 + (bs.length : Int)) = (m : Int) + 1 := ⟨(useN s (1 + (bs.length : Int)) - 1).toNat, by omega⟩
        have e2 : useN s (1 + (bs.length : Int)) - 1 = (m : Int) := by omega
        rw [e2]
        refine (write_put w p s mb L k A _ c bs m h hr hf hn rfl hm2 hv).mono ?_
        rintro e w' ⟨rfl, mb', v', hmv⟩
        exact ⟨rfl, mb', _, hmv, (Alike.refl L).put k dv v' _⟩
  · refine (write_bad w p s mb L k (.slice A bs.length c) h hr).mono ?_
    rintro e w' ⟨rfl, hm⟩
    rw [if_pos hr, if_neg (fun h => hr h.1), if_neg (fun h => hr h.1)]
    exact ⟨rfl, Mo.of hm⟩

theorem use_one (s : S) (h : s.a = true → 0 ≤ s.n ∧ s.n ≤ 9223372036854775807) (h0 : useN s 1 ≠ 1) : useN s 1 = 0 := by
  have := useN_le s 1 h
  have e : ((1 : Nat) : Int) = 1 := rfl
  rw [e] at this; omega

/-! ### Cut -/
def cutE (s : S) (L : List Fi) (k : ByteArray) (x : Int) : Int := if fnd s.d L k [k] ≠ 0 then fnd s.d L k [k] else if x < 0 ∨ ((bytL L k).length : Int) < x then 1 else dwn (useS s 1)
def cutB (s : S) (L : List Fi) (k : ByteArray) (x : Int) : Prop := fnd s.d L k [k] = 0 ∧ ¬ (x < 0 ∨ ((bytL L k).length : Int) < x)
instance (s : S) (L : List Fi) (k : ByteArray) (x : Int) : Decidable (cutB s L k x) := inferInstanceAs (Decidable (_ ∧ _))
def cutS (s : S) (L : List Fi) (k : ByteArray) (x : Int) : S := if cutB s L k x then (if useN s 1 = 1 then { useS s 1 with used := s.used + (x - ((bytL L k).length : Int)) } else useS s 1) else s
def cutL (s : S) (L : List Fi) (k : ByteArray) (x : Int) : List Fi := if cutB s L k x then (if useN s 1 = 1 then putL L k (dv, (bytL L k).take x.toNat) else L) else L
theorem Cut_any {w : World} {p : Nat} {s : S} {mb : Option Nat} {L : List Fi} (k : ByteArray) (x : Int) (h : StR w p s mb L) :
    Calls Tryz.prog 26 #[.pointer (some ⟨p, 0, none⟩), .string k, .int .i64 x] w fun e w' => e = .returned (.int .i64 (cutE s L k x)) ∧ Mo w w' p mb L (cutS s L k x) (cutL s L k x) := by
  unfold cutE cutS cutL
  by_cases hr : fnd s.d L k [k] = 0
  · by_cases hf : x < 0 ∨ ((bytL L k).length : Int) < x
    · refine (cut_arg w p s mb L k x h hr hf).mono ?_
      rintro e w' ⟨rfl, hm⟩
      rw [if_neg (fun h => h hr), if_pos hf, if_neg (fun h => h.2 hf), if_neg (fun h => h.2 hf)]
      exact ⟨rfl, Mo.of hm⟩
    · have hB : cutB s L k x := ⟨hr, hf⟩
      rw [if_neg (fun h => h hr), if_neg hf, if_pos hB, if_pos hB]
      by_cases hm : useN s 1 = 1
      · rw [if_pos hm, if_pos hm]
        obtain ⟨m, hm2⟩ : ∃ m : Nat, x = (m : Int) := ⟨x.toNat, by omega⟩
        refine (cut_put w p s mb L k x m h hr hm2 (by omega) hm).mono ?_
        rintro e w' ⟨rfl, mb', v', hmv⟩
        subst hm2
        exact ⟨rfl, mb', _, hmv, (Alike.refl L).put k dv v' _⟩
      · rw [if_neg hm, if_neg hm]
        refine (cut_down w p s mb L k x h hr (by omega) (use_one s h.left hm)).mono ?_
        rintro e w' ⟨rfl, hmv⟩
        exact ⟨rfl, Mo.of hmv⟩
  · refine (cut_bad w p s mb L k x h hr).mono ?_
    rintro e w' ⟨rfl, hm⟩
    rw [if_pos hr, if_neg (fun h => hr h.1), if_neg (fun h => hr h.1)]
    exact ⟨rfl, Mo.of hm⟩

/-! ### Rename -/
def renE (s : S) (L : List Fi) (k tn : ByteArray) : Int := if fnd s.d L k [tn, k] ≠ 0 then fnd s.d L k [tn, k] else dwn (useS s 1)
def renL (s : S) (L : List Fi) (k tn : ByteArray) : List Fi := if fnd s.d L k [tn, k] = 0 ∧ useN s 1 = 1 then putL (delL L k) tn (dv, bytL L k) else L
def renS (s : S) (L : List Fi) (k tn : ByteArray) : S := if fnd s.d L k [tn, k] = 0 then { useS s 1 with used := (usedL (renL s L k tn) : Int) } else s
theorem used_alike {w : World} {p : Nat} {s : S} {mb : Option Nat} {L Lc : List Fi} (h : StR w p s mb L) (hk : KeysL Lc) (ha : Alike Lc L) : s.used = usedL Lc := by
  rw [h.used, same_used hk h.keys ha]
theorem Rename_any {w : World} {p : Nat} {s : S} {mb : Option Nat} {L : List Fi} (k tn : ByteArray) (h : StR w p s mb L) :
    Calls Tryz.prog 84 #[.pointer (some ⟨p, 0, none⟩), .string k, .string tn] w fun e w' => e = .returned (.int .i64 (renE s L k tn)) ∧ Mo w w' p mb L (renS s L k tn) (renL s L k tn) := by
  unfold renE renS
  by_cases hr : fnd s.d L k [tn, k] = 0
  · rw [if_neg (fun h => h hr), if_pos hr]
    by_cases hm : useN s 1 = 1
    · have hL : renL s L k tn = putL (delL L k) tn (dv, bytL L k) := by unfold renL; rw [if_pos ⟨hr, hm⟩]
      have htn : tn.size ≤ 12 := by
        have h1 := (fnd_of hr).1
        unfold rdy at h1
        split at h1
        · cases h1
        · split at h1
          · rename_i h2
            simp only [List.all_cons, Bool.and_eq_true] at h2
            have h3 := h2.1
            unfold okN at h3
            simp only [Bool.and_eq_true, decide_eq_true_eq] at h3
            exact h3.1.2
          · cases h1
      refine (rename_put w p s mb L k tn h hr hm (fnd_of hr).2 htn).mono ?_
      rintro e w' ⟨rfl, mb', hmv⟩
      have hal : Alike (renL s L k tn) (putL (delL L k) tn (valL L k, bytL L k)) := by rw [hL]; exact (Alike.refl _).put tn dv _ _
      have hu : usedL (renL s L k tn) = usedL (putL (delL L k) tn (valL L k, bytL L k)) := (same_used (by rw [hL]; exact keys_put (keys_del h.keys k) _ _) hmv.st.keys hal).symm
      rw [hu]
      exact ⟨rfl, mb', _, hmv, hal⟩
    · have hL : renL s L k tn = L := by unfold renL; rw [if_neg (fun h => hm h.2)]
      rw [hL]
      refine (rename_down w p s mb L k tn h hr (use_one s h.left hm)).mono ?_
      rintro e w' ⟨rfl, hmv⟩
      have hu := hmv.st.used
      refine ⟨rfl, mb, L, ?_, Alike.refl _⟩
      rw [← hu]
      exact hmv
  · have hL : renL s L k tn = L := by unfold renL; rw [if_neg (fun h => hr h.1)]
    rw [hL]
    refine (rename_bad w p s mb L k tn h hr).mono ?_
    rintro e w' ⟨rfl, hm⟩
    rw [if_pos hr, if_neg hr]
    exact ⟨rfl, Mo.of hm⟩

/-! ### drop -/
def drpE (s : S) (L : List Fi) (k : ByteArray) : Int := if fnd s.d L k [k] ≠ 0 then fnd s.d L k [k] else dwn (useS s 1)
def drpS (s : S) (L : List Fi) (k : ByteArray) : S := if fnd s.d L k [k] = 0 then (if useN s 1 = 1 then { useS s 1 with used := s.used - ((bytL L k).length : Int) } else useS s 1) else s
def drpL (s : S) (L : List Fi) (k : ByteArray) : List Fi := if fnd s.d L k [k] = 0 ∧ useN s 1 = 1 then delL L k else L
end Go.Proofs.YtklngdmpledgeaaGreat.Sr
