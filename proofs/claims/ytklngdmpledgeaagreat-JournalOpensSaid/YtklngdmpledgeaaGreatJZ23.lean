/-
  The contract of Get. Conditions: at most a thousand rows.
-/
import Derived.Test.YtklngdmpledgeaaGreatJZ10
import Derived.Test.YtklngdmpledgeaaGreatJRec
import Derived.Test.YtklngdmpledgeaaGreatJZ22
namespace Go.Proofs.YtklngdmpledgeaaGreat.Tb.Ib
open Go.RowKit

def zv : V := (⟨none, 0, 0⟩ : Bv)
def zk : K := (0 : Int)
def getL (l : List R) (k : K) : V := match l[pl l k]? with | some r => if r.1 = k then r.2 else zv | none => zv
theorem getL_has (l : List R) (k : K) (h : hasB l k = true) : l[pl l k]? = some (k, getL l k) := by
  obtain ⟨_, v, hv⟩ := has_lt l k h
  rw [hv]
  unfold getL
  rw [hv]
  simp
theorem getL_not (l : List R) (k : K) (h : hasB l k = false) : getL l k = zv := by
  unfold hasB at h
  unfold getL
  cases e : l[pl l k]? with
  | none => rfl
  | some r =>
    rw [e] at h
    have : ¬ r.1 = k := by simpa using h
    simp [this]

end Go.Proofs.YtklngdmpledgeaaGreat.Tb.Ib

namespace Go.Proofs.YtklngdmpledgeaaGreat.Tb.Ib
open Go.RowKit

set_option maxRecDepth 100000 in
set_option maxHeartbeats 1000000 in
theorem at_none (w : World) (p : Option Addr) (l : List R) (i : Int) (h : TabR w p l) (hn : l.length ≤ 1000) (hi : i < 0 ∨ l.length ≤ i) :
    Calls Tryz.prog 53 #[.pointer p, .int .i64 i] w fun e w' => e = .returned (.tuple #[.agg #[ek zk, ev zv], .bool false]) ∧ Below w.heap.size w w' := by
  have HH := Lib.hid h
  clear h
  rcases Int.lt_or_le i 0 with h0 | h0
  · go_enter Tryz.func53, Tryz.ntmps53
    go_wp2
    exact bodyPost_ret (v := .tuple #[.agg #[ek zk, ev zv], .bool false]) (by simp [results, Tryz.results53, go_sem, ek, ev, zk, zv]; try rfl) rfl ⟨rfl, (Below.refl _ _).alloc (Nat.le_refl _) _⟩
  · have h1 : (l.length : Int) ≤ i := by omega
    clear hi
    go_enter Tryz.func53, Tryz.ntmps53
    go_wp2_with (go_at_call 78; refine (len_any _ _ _ (HH.out.below ((Below.refl _ _).alloc (Nat.le_refl _) _)) hn).mono ?_; rintro e w' ⟨rfl, rfl⟩)
    exact bodyPost_ret (v := .tuple #[.agg #[ek zk, ev zv], .bool false]) (by simp [results, Tryz.results53, go_sem, ek, ev, zk, zv]; try rfl) rfl ⟨rfl, (Below.refl _ _).alloc (Nat.le_refl _) _⟩
set_option maxRecDepth 100000 in
set_option maxHeartbeats 1000000 in
theorem at_some (w : World) (p : Option Addr) (l : List R) (i : Nat) (r : R) (h : TabR w p l) (hn : l.length ≤ 1000) (hi : l[i]? = some r) :
    Calls Tryz.prog 53 #[.pointer p, .int .i64 i] w fun e w' => e = .returned (.tuple #[.agg #[ek r.1, ev r.2], .bool true]) ∧ Below w.heap.size w w' := by
  have hlt : i < l.length := (List.getElem?_eq_some_iff.1 hi).1
  have HL := Lib.hid (len_any _ _ _ (h.below ((Below.refl _ _).alloc (Nat.le_refl _) (.cells #[ek zk, ev zv] 72))) hn)
  rcases h with ⟨rfl, rfl⟩ | ⟨b, v, rfl, hbl, hc, hr⟩
  · simp at hi
  · obtain ⟨A, cap, rfl, _, _, h3⟩ := hr
    rcases h3 with ⟨rfl, rfl⟩ | ⟨g, o, rfl, hg0, hcell⟩
    · simp at hi
    have hce := hcell _ _ hi
    have c1 := hce.1
    have c2 := hce.2
    clear hce hcell hi
    unfold ek at c1
    unfold ev at c2
    go_enter Tryz.func53, Tryz.ntmps53
    go_wp2_with (go_at_call 78; refine HL.out.mono ?_; rintro e w' ⟨rfl, rfl⟩)
    exact bodyPost_ret (v := .tuple #[.agg #[ek r.1, ev r.2], .bool true]) (by simp [results, Tryz.results53, go_sem, ek, ev]) rfl ⟨rfl, (Below.refl _ _).alloc (Nat.le_refl _) _⟩
end Go.Proofs.YtklngdmpledgeaaGreat.Tb.Ib

namespace Go.Proofs.YtklngdmpledgeaaGreat.Jo
open Go.RowKit Fr Sr

section
variable {w : World} {p j t nx : Nat} {s : Sr.S} {mb : Option Nat} {L : List Fi} {snd : Bool} {sv : Value} {xs : List Xr} {rs : List Re}
set_option maxRecDepth 100000 in
theorem jnext_any (h : JSt w p s mb L j t snd nx sv xs rs) : Calls Tryz.prog 30 #[.pointer (some ⟨j, 0, none⟩)] w fun e w' => e = .returned (.int .i64 (nx : Int)) ∧ w = w' := by
  obtain ⟨⟨c0, c1, c2, c3⟩, _⟩ := four h.jr.blk
  clear h
  go_enter Tryz.func30, Tryz.ntmps30
  go_wp2_with (go_at_call 51; (with_reducible refine (orNone_some _ _).mono ?_); rintro e w' ⟨rfl, rfl⟩)
  go_ret
  exact ⟨rfl, rfl⟩
/-- The first number: of the first record, or the next. -/
def fstR (rs : List Re) (nx : Nat) : Nat := match rs with | [] => nx | r :: _ => r.1
set_option maxRecDepth 100000 in
set_option maxHeartbeats 2000000 in
theorem jfirst_any (h : JSt w p s mb L j t snd nx sv xs rs) : Calls Tryz.prog 29 #[.pointer (some ⟨j, 0, none⟩)] w fun e w' => e = .returned (.int .i64 (fstR rs nx : Int)) ∧ Below w.heap.size w w' := by
  obtain ⟨⟨c0, c1, c2, c3⟩, _⟩ := four h.jr.blk
  have HH := Lib.hid h
  have htab : Tb.Ib.TabR w (some ⟨t, 0, none⟩) xs := h.jr.tab.read
  have hfew := h.jr.few
  have hlen := h.jr.vals.1
  cases xs with
  | nil =>
    have hrs : rs = [] := List.length_eq_zero_iff.1 hlen.symm
    have HA : Hid (Calls Tryz.prog 53 #[.pointer (some ⟨t, 0, none⟩), .int .i64 0] w fun e w' => e = .returned (.tuple #[.agg #[.int .i64 0, .slice none 0 0], .bool false]) ∧ Below w.heap.size w w') := Lib.hid (Tb.Ib.at_none w (some ⟨t, 0, none⟩) [] 0 htab (by simp) (.inr (by simp)))
    subst hrs
    clear htab hlen h hfew
    go_enter Tryz.func29, Tryz.ntmps29
    go_wp2_with (first
      | (go_at_call 30; (with_reducible refine (jnext_any HH3.out).mono ?_); rintro e w' ⟨rfl, rfl⟩)
      | (go_at_call 53; (with_reducible refine HA.out.mono ?_); rintro e w2 ⟨rfl, hb2⟩
         have hal := alloc_below w2 (.cells #[.int .i64 0, .slice none 0 0] 72)
         have hb3 := hb2.trans (hal.mono hb2.size)
         have HB3 := Lib.hid hb3
         have HH3 := Lib.hid (HH.out.below hb3)
         clear hb2 hal hb3)
      | (go_at_call 51; (with_reducible refine (orNone_some _ _).mono ?_); rintro e w' ⟨rfl, rfl⟩))
    go_ret
    exact ⟨rfl, HB3.out⟩
  | cons x xs =>
    obtain ⟨r, rs', rfl⟩ : ∃ r rs', rs = r :: rs' := by
      cases rs with
      | nil => simp at hlen
      | cons r rs' => exact ⟨r, rs', rfl⟩
    have hx := (h.jr.vals.2 0 x r rfl rfl).1
    obtain ⟨xk, xv⟩ := x
    obtain ⟨vA, vn, vc⟩ := xv
    have hx : xk = (r.1 : Int) := hx
    subst hx
    have HA : Hid (Calls Tryz.prog 53 #[.pointer (some ⟨t, 0, none⟩), .int .i64 0] w fun e w' => e = .returned (.tuple #[.agg #[.int .i64 (r.1 : Int), .slice vA vn vc], .bool true]) ∧ Below w.heap.size w w') := Lib.hid (Tb.Ib.at_some w (some ⟨t, 0, none⟩) _ 0 ((r.1 : Int), ⟨vA, vn, vc⟩) htab (by omega) rfl)
    clear htab hlen h hfew
    go_enter Tryz.func29, Tryz.ntmps29
    go_wp2_with (first
      | (go_at_call 53; (with_reducible refine HA.out.mono ?_); rintro e w2 ⟨rfl, hb2⟩
         have hal := alloc_below w2 (.cells #[.int .i64 (r.1 : Int), .slice vA vn vc] 72)
         have HB3 := Lib.hid (hb2.trans (hal.mono hb2.size))
         clear hb2 hal)
      | (go_at_call 51; (with_reducible refine (orNone_some _ _).mono ?_); rintro e w' ⟨rfl, rfl⟩))
    go_ret
    exact ⟨rfl, HB3.out⟩
end
end Go.Proofs.YtklngdmpledgeaaGreat.Jo

namespace Go.Proofs.YtklngdmpledgeaaGreat.Jo
open Go.RowKit Fr Sr

abbrev knew : ByteArray := { data := #[108, 111, 103, 46, 110, 101, 119] }
theorem wri_alike {L L' : List Fi} (h : Sr.Alike L L') (s : S) (k : ByteArray) (bs : List Int) : wriE s L' k bs.length = wriE s L k bs.length ∧ wriS s L' k bs.length = wriS s L k bs.length ∧ Sr.Alike (wriL s L k bs) (wriL s L' k bs) := by
  have e := (h k).2
  have hB : wriB s L' k bs.length = wriB s L k bs.length := by unfold wriB; rw [e]
  refine ⟨by unfold wriE; rw [e], ?_, ?_⟩
  · unfold wriS
    by_cases q : wriB s L k bs.length
    · rw [if_pos q, if_pos (hB.mpr q), e]
    · rw [if_neg q, if_neg (fun z => q (hB.mp z))]
  · unfold wriL
    by_cases q : wriB s L k bs.length
    · rw [if_pos q, if_pos (hB.mpr q)]
      split
      · exact h.put _ _ _ _
      · exact h
    · rw [if_neg q, if_neg (fun z => q (hB.mp z))]
      exact h
theorem fnd_al {L L' : List Fi} (h : Sr.Alike L L') (d : Bool) (k : ByteArray) (ns : List ByteArray) : fnd d L' k ns = fnd d L k ns := by
  unfold fnd
  rw [(h k).1]
theorem ren_alike {L L' : List Fi} (h : Sr.Alike L L') (hk : KeysL L) (hk' : KeysL L') (s : S) (k tn : ByteArray) : renE s L' k tn = renE s L k tn ∧ renS s L' k tn = renS s L k tn ∧ Sr.Alike (renL s L k tn) (renL s L' k tn) := by
  have hf := fnd_al h s.d k [tn, k]
  have hl : Sr.Alike (renL s L k tn) (renL s L' k tn) := by
    unfold renL
    rw [hf, (h k).2]
    split
    · exact (h.del hk hk' k).put _ _ _ _
    · exact h
  have hkl : ∀ {M : List Fi}, KeysL M → KeysL (renL s M k tn) := fun {M} hm => by
    unfold renL
    split
    · exact keys_put (keys_del hm k) _ _
    · exact hm
  refine ⟨?_, ?_, hl⟩
  · unfold renE; rw [hf]
  · unfold renS; rw [hf, same_used (hkl hk) (hkl hk') hl]
theorem keys_wri {s : S} {L : List Fi} (k : ByteArray) (bs : List Int) (h : KeysL L) : KeysL (wriL s L k bs) := by
  unfold wriL
  split
  · split
    · exact keys_put h _ _
    · exact h
  · exact h
def rpE (s : S) (L : List Fi) (bs : List Int) : Int := if wriE s L knew bs.length = 0 then renE (wriS s L knew bs.length) (wriL s L knew bs) knew klog else wriE s L knew bs.length
def rpS (s : S) (L : List Fi) (bs : List Int) : S := if wriE s L knew bs.length = 0 then renS (wriS s L knew bs.length) (wriL s L knew bs) knew klog else wriS s L knew bs.length
def rpL (s : S) (L : List Fi) (bs : List Int) : List Fi := if wriE s L knew bs.length = 0 then renL (wriS s L knew bs.length) (wriL s L knew bs) knew klog else wriL s L knew bs
section
variable {w w' w2 : World} {p j t nx : Nat} {s s2 : S} {mb mb' : Option Nat} {L L' L2 : List Fi} {snd : Bool} {sv : Value} {xs : List Xr} {rs : List Re}
set_option maxRecDepth 100000 in
set_option maxHeartbeats 2000000 in
theorem replace_any (h : JSt w p s mb L j t snd nx sv xs rs) (hkl : KeysL L) {A : Option Addr} {n c : Nat} {bs : List Int} (hb : BAt w (.slice A n c) bs) (hf : BK (fun k => ¬ Tj p mb L j t sv k) (.slice A n c) bs) (hn : n ≤ 1000000) :
    Calls Tryz.prog 59 #[.pointer (some ⟨j, 0, none⟩), .slice A n c] w fun e w' => e = .returned (.int .i64 (rpE s L bs)) ∧ JMv w w' p mb L j t sv t (fun mb' L' sv' => sv = sv' ∧ JSt w' p (rpS s L bs) mb' L' j t (sndE snd (rpE s L bs)) nx sv xs rs ∧ Sr.Alike (rpL s L bs) L') := by
  have hl := hb.len.1
  have HA := Lib.hid (Write_any knew h.st hn hl (fun w' ho => bat_step hb ho (fun hp a n c ha hs => hf hp a n c ha (.inl hs))))
  subst hl
  obtain ⟨E, hE⟩ : ∃ E, E = wriE s L knew bs.length := ⟨_, rfl⟩
  obtain ⟨⟨c0, c1, c2, c3⟩, _⟩ := four h.jr.blk
  have HJ := Lib.hid h
  have HKL := Lib.hid hkl
  rw [← hE] at HA
  by_cases hz : E = 0
  · have hz0 : wriE s L knew bs.length = 0 := hE.symm.trans hz
    have e1 : rpE s L bs = renE (wriS s L knew bs.length) (wriL s L knew bs) knew klog := if_pos hz0
    have e2 : rpS s L bs = renS (wriS s L knew bs.length) (wriL s L knew bs) knew klog := if_pos hz0
    have e3 : rpL s L bs = renL (wriS s L knew bs.length) (wriL s L knew bs) knew klog := if_pos hz0
    rw [e1, e2, e3]
    subst hz
    clear h hb hf hE hz0 e1 e2 e3 hkl
    obtain ⟨s1, hs1⟩ : ∃ s1, s1 = wriS s L knew bs.length := ⟨_, rfl⟩
    obtain ⟨L1, hL1⟩ : ∃ L1, L1 = wriL s L knew bs := ⟨_, rfl⟩
    have HK1 : Hid (KeysL L1) := by show KeysL L1; rw [hL1]; exact keys_wri _ _ HKL.out
    rw [← hs1, ← hL1] at HA ⊢
    clear hs1 hL1
    obtain ⟨E2, hE2⟩ : ∃ E2, E2 = renE s1 L1 knew klog := ⟨_, rfl⟩
    have HE2 := Lib.hid hE2
    rw [← hE2]
    clear hE2
    go_enter Tryz.func59, Tryz.ntmps59
    go_wp2_with (first
      | (go_at_call 57; (with_reducible refine HT2.out.mono ?_); rintro e w5 ⟨rfl, hj5, ho5⟩; have HJ5 := Lib.hid hj5; have HO5 := Lib.hid ho5; clear hj5 ho5)
      | (go_at_call 84; (with_reducible refine HR.out.mono ?_); rintro e w4 ⟨rfl, mb4, L4, mv4, al4⟩; have HM4 := Lib.hid mv4; have HAL4 := Lib.hid al4; have HT2 := Lib.hid (told_any (HJ3.out.store mv4) E2); clear mv4 al4)
      | (go_at_call 57; (with_reducible refine HTD.out.mono ?_); rintro e w3 ⟨rfl, hj3, ho3⟩
         have hj3' : JSt w3 p s1 mb' L' j t snd nx sv xs rs := hj3
         have hr := Rename_any knew klog hj3'.st
         have hal := ren_alike HAL.out HK1.out hj3'.st.keys s1 knew klog
         rw [hal.1, hal.2.1, ← HE2.out] at hr
         have HR := Lib.hid hr
         have HA3 := Lib.hid hal.2.2
         have c0' := (four hj3'.jr.blk).1.1
         have HJ3 := Lib.hid hj3'; have HO3 := Lib.hid ho3; clear hj3 ho3 hr hal hj3')
      | (go_at_call 5; (with_reducible refine HA.out.mono ?_); rintro e w2 ⟨rfl, mb', L', mv, al⟩; have HMV := Lib.hid mv; have HAL := Lib.hid al; have HTD := Lib.hid (told_any (HJ.out.store mv) 0); clear mv al))
    go_ret
    refine ⟨rfl, mb4, L4, sv, ⟨rfl, HJ5.out, HA3.out.trans HAL4.out⟩, ?_, ?_⟩
    · have h1 : Off (Tj p mb L j t sv) w w3 := off_two HMV.out.off HO3.out (fun i hi => .inl hi) (fun i hi => .inl (.inr hi))
      have h2 : Off (Tj p mb' L' j t sv) w3 w5 := off_two HM4.out.off HO5.out (fun i hi => .inl hi) (fun i hi => .inl (.inr hi))
      refine off_two h1 h2 (fun i hi => hi) (fun i hi => ?_)
      rcases hi with hi | hi
      · exact (HMV.out.new i hi).imp .inl id
      · exact .inl (.inr hi)
    · intro i hi
      rcases hi with hi | hi
      · rcases HM4.out.new i hi with h1 | h1
        · exact (HMV.out.new i h1).imp .inl id
        · exact .inr (Nat.le_trans HMV.out.off.1.size (Nat.le_trans HO3.out.1.size h1))
      · exact .inl (.inr hi)
  · have hz0 : ¬ wriE s L knew bs.length = 0 := fun e => hz (hE.trans e)
    have e1 : rpE s L bs = E := (if_neg hz0).trans hE.symm
    have e2 : rpS s L bs = wriS s L knew bs.length := if_neg hz0
    have e3 : rpL s L bs = wriL s L knew bs := if_neg hz0
    rw [e1, e2, e3]
    have hEb : (E != 0) = true := by simpa using hz
    clear h hb hf hE hz0 e1 e2 e3 hkl
    go_enter Tryz.func59, Tryz.ntmps59
    go_wp2_with (first
      | (go_at_call 57; (with_reducible refine HTD.out.mono ?_); rintro e w3 ⟨rfl, hj3, ho3⟩; have HJ3 := Lib.hid hj3; have HO3 := Lib.hid ho3; clear hj3 ho3)
      | (go_at_call 5; (with_reducible refine HA.out.mono ?_); rintro e w2 ⟨rfl, mb', L', mv, al⟩; have HMV := Lib.hid mv; have HAL := Lib.hid al; have HTD := Lib.hid (told_any (HJ.out.store mv) E); clear mv al))
    go_ret
    refine ⟨rfl, mb', L', sv, ⟨rfl, HJ3.out, HAL.out⟩, off_two HMV.out.off HO3.out (fun i hi => .inl hi) (fun i hi => .inl (.inr hi)), fun i hi => ?_⟩
    rcases hi with hi | hi
    · exact (HMV.out.new i hi).imp .inl id
    · exact .inl (.inr hi)
end
end Go.Proofs.YtklngdmpledgeaaGreat.Jo
