/-
  The contracts of Save and Load at any store. Conditions: at most a million bytes.
-/
import Derived.Test.YtjijgoflbjbnfaaGreatVM25
import Derived.Test.YtjijgoflbjbnfaaGreatVM17
import Derived.Test.YtjijgoflbjbnfaaGreatVM23
namespace Go.Proofs.YtjijgoflbjbnfaaGreat.Sp
open Go.RowKit Fr Sr
attribute [local go_sem] Oper.semAt_some

abbrev ksnap : ByteArray := { data := #[115, 110, 97, 112] }
abbrev knew : ByteArray := { data := #[115, 110, 97, 112, 46, 110, 101, 119] }
theorem wri_alike {L L' : List Fi} (h : Sr.Alike L L') (s : S) (k : ByteArray) (bs : List Int) : wriE s L' k bs.length = wriE s L k bs.length ∧ wriS s L' k bs.length = wriS s L k bs.length ∧ Sr.Alike (wriL s L k bs) (wriL s L' k bs) := by
  have e := (h k).2
  have hB : wriB s L' k bs.length = wriB s L k bs.length := by unfold wriB; rw [e]
  refine ⟨by unfold wriE; rw [e], ?_, ?_⟩
  · unfold wriS
    by_cases q : wriB s L k bs.length
    · rw [if_pos q, if_pos (hB.mpr q), e]
    · rw [if_neg q, if_neg (fun z => q (hB.mp z))]
  · unfold wriL
    by_cases q : wriB s L k bs.length
    · rw [if_pos q, if_pos (hB.mpr q)]
      split
      · exact h.put _ _ _ _
      · exact h
    · rw [if_neg q, if_neg (fun z => q (hB.mp z))]
      exact h
theorem fnd_al {L L' : List Fi} (h : Sr.Alike L L') (d : Bool) (k : ByteArray) (ns : List ByteArray) : fnd d L' k ns = fnd d L k ns := by
  unfold fnd
  rw [(h k).1]
theorem ren_alike {L L' : List Fi} (h : Sr.Alike L L') (hk : KeysL L) (hk' : KeysL L') (s : S) (k tn : ByteArray) : renE s L' k tn = renE s L k tn ∧ renS s L' k tn = renS s L k tn ∧ Sr.Alike (renL s L k tn) (renL s L' k tn) := by
  have hf := fnd_al h s.d k [tn, k]
  have hl : Sr.Alike (renL s L k tn) (renL s L' k tn) := by
    unfold renL
    rw [hf, (h k).2]
    split
    · exact (h.del hk hk' k).put _ _ _ _
    · exact h
  have hkl : ∀ {M : List Fi}, KeysL M → KeysL (renL s M k tn) := fun {M} hm => by
    unfold renL
    split
    · exact keys_put (keys_del hm k) _ _
    · exact hm
  refine ⟨?_, ?_, hl⟩
  · unfold renE; rw [hf]
  · unfold renS; rw [hf, same_used (hkl hk) (hkl hk') hl]
theorem keys_wri {s : S} {L : List Fi} (k : ByteArray) (bs : List Int) (h : KeysL L) : KeysL (wriL s L k bs) := by
  unfold wriL
  split
  · split
    · exact keys_put h _ _
    · exact h
  · exact h
/-- What Save tells, and what it leaves. -/
def svE (s : S) (L : List Fi) (bs : List Int) : Int := if wriE s L knew bs.length = 0 then renE (wriS s L knew bs.length) (wriL s L knew bs) knew ksnap else wriE s L knew bs.length
def svS (s : S) (L : List Fi) (bs : List Int) : S := if wriE s L knew bs.length = 0 then renS (wriS s L knew bs.length) (wriL s L knew bs) knew ksnap else wriS s L knew bs.length
def svL (s : S) (L : List Fi) (bs : List Int) : List Fi := if wriE s L knew bs.length = 0 then renL (wriS s L knew bs.length) (wriL s L knew bs) knew ksnap else wriL s L knew bs
set_option maxRecDepth 100000 in
set_option maxHeartbeats 4000000 in
theorem save_any {w : World} {p : Nat} {s : S} {mb : Option Nat} {L : List Fi} (h : StR w p s mb L) {A : Option Addr} {n c : Nat} {ls : List (List Int)} (hr : RowsA w (.slice A n c) ls) (hb : ∀ l ∈ ls, bok l ∧ l.length ≤ 2000000) (hf : fitsS ls = true) (ht : tot ls ≤ 1000000) :
    Calls Tryz.prog 59 #[.pointer (some ⟨p, 0, none⟩), .slice A n c] w fun e w' => e = .returned (.int .i64 (svE s L (encS ls))) ∧ Mo w w' p mb L (svS s L (encS ls)) (svL s L (encS ls)) := by
  have HEN := Lib.hid (encode_ok w A n c ls hr hb hf)
  obtain ⟨bs, hbs⟩ : ∃ bs, bs = encS ls := ⟨_, rfl⟩
  obtain ⟨m, hm⟩ : ∃ m, m = tot ls := ⟨_, rfl⟩
  have hml : m = bs.length := by rw [hm, hbs, encS_len]
  rw [← hbs, ← hm] at HEN
  rw [← hbs]
  rw [← hm] at ht
  have HH := Lib.hid h
  have HML := Lib.hid hml
  have HT := Lib.hid ht
  obtain ⟨E, hE⟩ : ∃ E, E = wriE s L knew bs.length := ⟨_, rfl⟩
  clear h hr hb hf hbs hm ht hml
  have hwr : ∀ (w1 : World) (A1 : Option Addr) (q1 c1 : Nat), Below w.heap.size w w1 → q1 = m → (BAt w1 (.slice A1 q1 c1) bs ∧ BK (fun k => w.heap.size ≤ k) (.slice A1 q1 c1) bs) → Calls Tryz.prog 23 #[.pointer (some ⟨p, 0, none⟩), .string knew, .slice A1 q1 c1] w1 fun e w' => e = .returned (.int .i64 (wriE s L knew bs.length)) ∧ Mo w1 w' p mb L (wriS s L knew bs.length) (wriL s L knew bs) := fun w1 A1 q1 c1 hb1 hq1 hba => by
    have h1 := Write_any knew (HH.out.below hb1) (A := A1) (n := q1) (c := c1) (bs := bs) (by have := HT.out; omega) (by rw [hq1]; exact HML.out.symm) (fun W' ho => bat_kept hba.1 (fun hp a n c e => ho.2 a.block (bat_lt hba.1 hp e) (fun hown => by have := own_lt HH.out hown; have := hba.2 hp a n c e; omega)))
    rw [hq1, HML.out] at h1
    rw [hq1, HML.out]
    exact h1
  have HWR := Lib.hid hwr
  clear hwr
  by_cases hz : E = 0
  · have hz0 : wriE s L knew bs.length = 0 := hE.symm.trans hz
    have e1 : svE s L bs = renE (wriS s L knew bs.length) (wriL s L knew bs) knew ksnap := if_pos hz0
    have e2 : svS s L bs = renS (wriS s L knew bs.length) (wriL s L knew bs) knew ksnap := if_pos hz0
    have e3 : svL s L bs = renL (wriS s L knew bs.length) (wriL s L knew bs) knew ksnap := if_pos hz0
    rw [e1, e2, e3]
    rw [hz0] at HWR
    have HK1 := Lib.hid (keys_wri (s := s) knew bs HH.out.keys)
    obtain ⟨s1, hs1⟩ : ∃ s1, s1 = wriS s L knew bs.length := ⟨_, rfl⟩
    obtain ⟨L1, hL1⟩ : ∃ L1, L1 = wriL s L knew bs := ⟨_, rfl⟩
    rw [← hL1] at HK1
    rw [← hs1, ← hL1] at HWR ⊢
    clear hs1 hL1 hz0 e1 e2 e3 hE hz
    go_enter Tryz.func59, Tryz.ntmps59
    go_wp2_with (first
      | (go_at_call 92; (with_reducible refine HR.out.mono ?_); rintro e w4 ⟨rfl, mb4, L4, mv4, al4⟩; have HM4 := Lib.hid mv4; have HAL4 := Lib.hid al4; clear mv4 al4)
      | (go_at_call 23; (with_reducible refine (HWR.out _ _ _ _ HB1.out HQ1.out HBA.out).mono ?_); rintro e w3 ⟨rfl, mb3, L3, mv3, al3⟩
         have HM3 := Lib.hid mv3
         have hr := Rename_any knew ksnap mv3.st
         have hal := ren_alike al3 HK1.out mv3.st.keys s1 knew ksnap
         rw [hal.1, hal.2.1] at hr
         have HR := Lib.hid hr
         have HA3 := Lib.hid hal.2.2
         clear mv3 al3 hr hal)
      | (go_at_call 91; (with_reducible refine HEN.out.mono ?_); rintro e w1 ⟨A1, q1, c1, rfl, hq1, hba, hb1⟩; have HB1 := Lib.hid hb1; have HQ1 := Lib.hid hq1; have HBA := Lib.hid hba; clear hb1 hq1 hba))
    go_ret
    exact ⟨rfl, mb4, L4, (Mv.of_below HH.out HB1.out).trans (HM3.out.trans HM4.out), HA3.out.trans HAL4.out⟩
  · have hz0 : ¬ wriE s L knew bs.length = 0 := fun e => hz (hE.trans e)
    have e1 : svE s L bs = E := (if_neg hz0).trans hE.symm
    have e2 : svS s L bs = wriS s L knew bs.length := if_neg hz0
    have e3 : svL s L bs = wriL s L knew bs := if_neg hz0
    rw [e1, e2, e3]
    rw [← hE] at HWR
    clear e1 e2 e3 hE hz0
    go_enter Tryz.func59, Tryz.ntmps59
    go_wp2_with (first
      | (go_at_call 23; (with_reducible refine (HWR.out _ _ _ _ HB1.out HQ1.out HBA.out).mono ?_); rintro e w3 ⟨rfl, mb3, L3, mv3, al3⟩; have HM3 := Lib.hid mv3; have HAL3 := Lib.hid al3; clear mv3 al3)
      | (go_at_call 91; (with_reducible refine HEN.out.mono ?_); rintro e w1 ⟨A1, q1, c1, rfl, hq1, hba, hb1⟩; have HB1 := Lib.hid hb1; have HQ1 := Lib.hid hq1; have HBA := Lib.hid hba; clear hb1 hq1 hba))
    go_ret
    exact ⟨rfl, mb3, L3, (Mv.of_below HH.out HB1.out).trans HM3.out, HAL3.out⟩
/-- What Load tells of the file's bytes G. -/
def LodR (N : Nat) (G : List Int) (e : Ending) (w' : World) : Prop := ∃ A n c, e = .returned (.tuple #[.slice A n c, .int .i64 (if decE G = 0 then 0 else 13)]) ∧ RowsF N w' (.slice A n c) (decL G)
set_option maxRecDepth 100000 in
set_option maxHeartbeats 4000000 in
theorem load_any {w : World} {p : Nat} {s : S} {mb : Option Nat} {L : List Fi} (h : StR w p s mb L) (hb : bok (bytL L ksnap)) :
    Calls Tryz.prog 53 #[.pointer (some ⟨p, 0, none⟩)] w fun e w' => LodR w.heap.size (bytL L ksnap) e w' ∧ Below w.heap.size w w' := by
  have hrd := Sr.read_any w p s mb L ksnap h
  have hle : (bytL L ksnap).length ≤ 2000000 := by
    have h1 := byt_used L ksnap
    have h2 := h.room
    omega
  obtain ⟨G, hG⟩ : ∃ G, G = bytL L ksnap := ⟨_, rfl⟩
  rw [← hG] at hrd hle hb ⊢
  obtain ⟨d, hd⟩ : ∃ d, d = decE G := ⟨_, rfl⟩
  have HRD := Lib.hid hrd
  have HLE := Lib.hid (And.intro hle hb)
  have HD := Lib.hid hd
  unfold LodR
  clear hrd hle hb hG h
  have hdl : decL G = if d = 0 then decL G else [] := by
    split
    · rfl
    · rename_i h5
      unfold decL
      rw [if_neg (by rw [← hd]; exact h5)]
  have HDL := Lib.hid hdl
  clear hdl
  rw [← hd]
  clear hd
  go_enter Tryz.func53, Tryz.ntmps53
  go_upto_region 3 with (first
    | (go_at_call 83; (with_reducible refine HDE.out.mono ?_); rintro e w2 ⟨⟨A2, n2, c2, rfl, hrow⟩, hb2⟩
       have HROW := Lib.hid hrow
       have HB2 := Lib.hid (HB1.out.trans (hb2.mono HB1.out.size))
       clear hrow hb2)
    | (go_at_call 25; (with_reducible refine HRD.out.mono ?_); rintro e w1 ⟨A1, n1, c1, rfl, hn1, ho1, hb1⟩
       have hba : BAt w1 (.slice A1 n1 c1) G := BAt.of_own ho1
       have hde := decode_any w1 A1 n1 c1 G hba HLE.out.2 (by rw [hn1]; exact HLE.out.1)
       unfold DecR at hde
       rw [← HD.out] at hde
       have HDE := Lib.hid hde
       have HB1 := Lib.hid hb1
       clear hn1 ho1 hb1 hba hde))
  by_cases hd0 : d = 0
  · subst hd0
    go_wp2
    go_ret2
    exact ⟨⟨A2, n2, c2, rfl, HROW.out.from HB1.out.size⟩, HB2.out⟩
  · go_wp2
    go_ret2
    refine ⟨⟨none, 0, 0, rfl, ?_⟩, HB2.out⟩
    rw [HDL.out, if_neg hd0]
    exact RowsF.nil _ _ _ _
end Go.Proofs.YtjijgoflbjbnfaaGreat.Sp

namespace Go.Proofs.YtjijgoflbjbnfaaGreat.Sp
open Go.RowKit Fr Sr

theorem hne : ¬ knew = ksnap := by decide
/-- Not armed, not down. -/
theorem sv_ok {s : S} {L : List Fi} {bs : List Int} (ha : s.a = false) (hd : s.d = false) (hr : ¬ s.room < s.used - ((bytL L knew).length : Int) + (bs.length : Int)) :
    svE s L bs = 0 ∧ svL s L bs = putL (delL (putL L knew (dv, bs)) knew) ksnap (dv, bs) ∧ (svS s L bs).a = false ∧ (svS s L bs).d = false ∧ (svS s L bs).room = s.room := by
  have e1 : rdy s.d [knew] = 0 := by rw [hd]; decide
  have hU : ∀ m : Int, useS s m = s := fun m => by unfold useS; rw [ha]; rfl
  have hN : ∀ m : Int, useN s m = m := fun m => by unfold useN; rw [if_neg (fun h => by rw [ha] at h; cases h.1)]
  have hdw : dwn s = 0 := by unfold dwn; rw [hd]; rfl
  have hB : wriB s L knew bs.length := ⟨e1, hr⟩
  have hE : wriE s L knew bs.length = 0 := by
    unfold wriE; rw [e1, if_neg (by decide), if_neg hr, hU, hdw]
  have hL1 : wriL s L knew bs = putL L knew (dv, bs) := by
    unfold wriL
    rw [if_pos hB, hN, if_pos (by omega)]
    congr 2
    have : ((1 : Int) + (bs.length : Int) - 1).toNat = bs.length := by omega
    rw [this, List.take_length]
  have hS1 : (wriS s L knew bs.length).a = false ∧ (wriS s L knew bs.length).d = false ∧ (wriS s L knew bs.length).room = s.room := by
    unfold wriS
    rw [if_pos hB, hN, if_pos (by omega), hU]
    exact ⟨ha, hd, rfl⟩
  obtain ⟨s1, hs1⟩ : ∃ s1, s1 = wriS s L knew bs.length := ⟨_, rfl⟩
  rw [← hs1] at hS1
  obtain ⟨a1, d1, r1⟩ := hS1
  have hfn : fnd s1.d (putL L knew (dv, bs)) knew [ksnap, knew] = 0 := by
    have h3 : rdy s1.d [ksnap, knew] = 0 := by rw [d1]; decide
    unfold fnd
    rw [h3, if_neg (by decide), has_put, if_pos rfl]
    rfl
  have hU1 : useS s1 1 = s1 := by unfold useS; rw [a1]; rfl
  have hN1 : useN s1 1 = 1 := by unfold useN; rw [if_neg (fun h => by rw [a1] at h; cases h.1)]
  have hRL : renL s1 (putL L knew (dv, bs)) knew ksnap = putL (delL (putL L knew (dv, bs)) knew) ksnap (dv, bs) := by
    unfold renL
    rw [if_pos ⟨hfn, hN1⟩, byt_put, if_pos rfl]
  refine ⟨?_, ?_, ?_⟩
  · unfold svE
    rw [if_pos hE, ← hs1, hL1]
    unfold renE
    rw [hfn, if_neg (by decide), hU1]
    unfold dwn
    rw [d1]; rfl
  · unfold svL
    rw [if_pos hE, ← hs1, hL1]
    exact hRL
  · have : svS s L bs = { useS s1 1 with used := (usedL (renL s1 (putL L knew (dv, bs)) knew ksnap) : Int) } := by
      unfold svS
      rw [if_pos hE, ← hs1, hL1]
      unfold renS
      rw [if_pos hfn]
    rw [this, hU1]
    exact ⟨a1, d1, r1⟩
/-- Armed with u units. -/
structure Ar (s : S) (u : Nat) (R : Int) : Prop where
  a : s.a = true
  n : s.n = u
  d : s.d = false
  room : s.room = R
theorem Ar.use {s : S} {u : Nat} {R : Int} (h : Ar s u R) (m : Nat) : (u < m → useN s (m : Int) = u ∧ dwn (useS s (m : Int)) = 14) ∧ (m ≤ u → useN s (m : Int) = m ∧ dwn (useS s (m : Int)) = 0 ∧ Ar (useS s (m : Int)) (u - m) R) := by
  refine ⟨fun hu => ?_, fun hu => ?_⟩
  · have h1 : s.n < (m : Int) := by rw [h.n]; omega
    refine ⟨?_, ?_⟩
    · unfold useN; rw [if_pos ⟨h.a, h1⟩, h.n]
    · unfold useS; rw [if_pos h.a, if_pos h1]; rfl
  · have h1 : ¬ s.n < (m : Int) := by rw [h.n]; omega
    refine ⟨?_, ?_, ?_⟩
    · unfold useN; rw [if_neg (fun e => h1 e.2)]
    · unfold useS; rw [if_pos h.a, if_neg h1]; unfold dwn; rw [if_neg (by rw [h.d]; decide)]
    · unfold useS; rw [if_pos h.a, if_neg h1]
      exact ⟨h.a, by show s.n - (m : Int) = _; rw [h.n]; omega, h.d, h.room⟩
theorem wri_snap (s : S) (L : List Fi) (bs : List Int) : bytL (wriL s L knew bs) ksnap = bytL L ksnap := by
  unfold wriL
  split
  · split
    · rw [byt_put, if_neg hne]
    · rfl
  · rfl
/-- Whole, or as it was. -/
theorem sv_die {s : S} {u : Nat} {R : Int} {L : List Fi} {bs : List Int} (h : Ar s u R) (hr : ¬ s.room < s.used - ((bytL L knew).length : Int) + (bs.length : Int)) :
    (svE s L bs = 0 ∧ bytL (svL s L bs) ksnap = bs) ∨ (svE s L bs = 14 ∧ bytL (svL s L bs) ksnap = bytL L ksnap) := by
  have e1 : rdy s.d [knew] = 0 := by rw [h.d]; decide
  have hm : (1 : Int) + (bs.length : Int) = ((1 + bs.length : Nat) : Int) := by omega
  have hE : wriE s L knew bs.length = dwn (useS s ((1 + bs.length : Nat) : Int)) := by
    unfold wriE; rw [e1, if_neg (by decide), if_neg hr, hm]
  rcases Nat.lt_or_ge u (1 + bs.length) with hu | hu
  · obtain ⟨_, g2⟩ := (h.use (1 + bs.length)).1 hu
    have hE14 : wriE s L knew bs.length = 14 := hE.trans g2
    have f1 : svE s L bs = 14 := by unfold svE; rw [hE14, if_neg (by decide)]
    have f2 : svL s L bs = wriL s L knew bs := by unfold svL; rw [hE14, if_neg (by decide)]
    exact .inr ⟨f1, by rw [f2, wri_snap]⟩
  · obtain ⟨g1, g2, g3⟩ := (h.use (1 + bs.length)).2 hu
    have hE0 : wriE s L knew bs.length = 0 := hE.trans g2
    have f1 : svE s L bs = renE (wriS s L knew bs.length) (wriL s L knew bs) knew ksnap := by unfold svE; rw [hE0, if_pos rfl]
    have f2 : svL s L bs = renL (wriS s L knew bs.length) (wriL s L knew bs) knew ksnap := by unfold svL; rw [hE0, if_pos rfl]
    have hB : wriB s L knew bs.length := ⟨e1, hr⟩
    have hL1 : wriL s L knew bs = putL L knew (dv, bs) := by
      unfold wriL
      rw [if_pos hB, hm, g1, if_pos (by omega)]
      congr 2
      have : (((1 + bs.length : Nat) : Int) - 1).toNat = bs.length := by omega
      rw [this, List.take_length]
    have hS1 : Ar (wriS s L knew bs.length) (u - (1 + bs.length)) R := by
      unfold wriS
      rw [if_pos hB, hm, g1, if_pos (by omega)]
      exact ⟨g3.a, g3.n, g3.d, g3.room⟩
    obtain ⟨s1, hs1⟩ : ∃ s1, s1 = wriS s L knew bs.length := ⟨_, rfl⟩
    rw [← hs1] at hS1 f1 f2
    rw [f1, f2, hL1]
    have hfn : fnd s1.d (putL L knew (dv, bs)) knew [ksnap, knew] = 0 := by
      have h3 : rdy s1.d [ksnap, knew] = 0 := by rw [hS1.d]; decide
      unfold fnd
      rw [h3, if_neg (by decide), has_put, if_pos rfl]
      rfl
    have hR : renE s1 (putL L knew (dv, bs)) knew ksnap = dwn (useS s1 1) := by unfold renE; rw [hfn, if_neg (by decide)]
    rcases Nat.lt_or_ge (u - (1 + bs.length)) 1 with hv | hv
    · obtain ⟨k1, k2⟩ := (hS1.use 1).1 hv
      have hRL : renL s1 (putL L knew (dv, bs)) knew ksnap = putL L knew (dv, bs) := by
        unfold renL
        refine if_neg fun e => ?_
        have e3 := e.2
        have k1' : useN s1 1 = ((u - (1 + bs.length) : Nat) : Int) := k1
        omega
      rw [hRL]
      exact .inr ⟨hR.trans k2, by rw [byt_put, if_neg hne]⟩
    · obtain ⟨k1, k2, _⟩ := (hS1.use 1).2 hv
      have hRL : renL s1 (putL L knew (dv, bs)) knew ksnap = putL (delL (putL L knew (dv, bs)) knew) ksnap (dv, bs) := by
        unfold renL
        rw [if_pos ⟨hfn, k1⟩, byt_put, if_pos rfl]
      rw [hRL]
      exact .inl ⟨hR.trans k2, by rw [byt_put, if_pos rfl]⟩
end Go.Proofs.YtjijgoflbjbnfaaGreat.Sp

namespace Go.Proofs.YtjijgoflbjbnfaaGreat.Vt
open Go.RowKit Fr Sr Jo

abbrev ksnap : ByteArray := Sp.ksnap
theorem use_c (s : S) (m : Int) : (useN s m = m ∧ (useS s m).d = s.d ∧ (useS s m).a = s.a) ∨ (s.a = true ∧ s.n < m ∧ useN s m = s.n ∧ (useS s m).d = true) := by
  unfold useN useS
  by_cases h : s.a = true
  · by_cases h2 : s.n < m
    · right; simp [h, h2]
    · left; simp [h, h2]
  · left; simp [h]
theorem use_ur (s : S) (m : Int) : (useS s m).used = s.used ∧ (useS s m).room = s.room := by
  unfold useS
  split
  · split <;> exact ⟨rfl, rfl⟩
  · exact ⟨rfl, rfl⟩
theorem dwn_f {s : S} (h : s.d = false) : dwn s = 0 := by unfold dwn; rw [h]; rfl
theorem dwn_t {s : S} (h : s.d = true) : dwn s = 14 := by unfold dwn; rw [h]; rfl
abbrev lefO (s : S) : Prop := s.a = true → 0 ≤ s.n ∧ s.n ≤ 9223372036854775807
theorem add_c {s : S} {nx : Nat} {l : List Int} {L : List Fi} {rs : List Re} (hd : s.d = false) (hl : lefO s) (hc : Cl L rs) (hb : l.length ≤ 1000 ∧ nx ≤ 4611686018427387903) (hbk : bok l) :
    (appE s klog (recF nx l).length = 7 ∧ appS s klog (recF nx l).length = s ∧ appL s L klog (recF nx l) = L ∧ s.room < s.used + ((recF nx l).length : Int)) ∨
    ((appS s klog (recF nx l).length).room = s.room ∧ (∀ k, klog ≠ k → bytL (appL s L klog (recF nx l)) k = bytL L k ∧ hasL (appL s L klog (recF nx l)) k = hasL L k) ∧ (bytL (appL s L klog (recF nx l)) klog).length ≤ (bytL L klog).length + (recF nx l).length ∧ (appS s klog (recF nx l).length).used ≤ s.used + ((recF nx l).length : Int) ∧
      ((appE s klog (recF nx l).length = 14 ∧ s.a = true ∧ Has (appL s L klog (recF nx l)) rs) ∨ (appE s klog (recF nx l).length = 0 ∧ Cl (appL s L klog (recF nx l)) (rs ++ [(nx, l)]) ∧ (appS s klog (recF nx l).length).d = false ∧ (appS s klog (recF nx l).length).a = s.a))) := by
  have hrl := recF_len nx l
  have hfb : ∀ u : Nat, u < (recF nx l).length → nxE ((recF nx l).take u) ≠ 0 := fun u hu => nxE_torn (body_le (r := (nx, l)) hb) hu
  have hfk : bok (recF nx l) := frF_bok (bok_app (grp_bok (by omega)) hbk)
  obtain ⟨f, hf⟩ : ∃ f, f = recF nx l := ⟨_, rfl⟩
  have hsn : (frs (rs ++ [(nx, l)])).flatten = (frs rs).flatten ++ f := by rw [frs_snoc, hf]
  rw [← hf] at hrl hfb hfk ⊢
  have h8 : 0 < f.length := by omega
  have e1 : rdy s.d [klog] = 0 := by rw [hd]; exact okLog
  by_cases hr : s.room < s.used + (f.length : Int)
  · left
    have hB : ¬ appB s klog f.length := fun h => h.2 hr
    refine ⟨?_, ?_, ?_, hr⟩
    · unfold appE; rw [e1, if_neg (by decide), if_pos hr]
    · unfold appS; rw [if_neg hB]
    · unfold appL; rw [if_neg hB]
  · right
    have hB : appB s klog f.length := ⟨e1, hr⟩
    obtain ⟨hu, hro⟩ := use_ur s (f.length : Int)
    have hE : appE s klog f.length = dwn (useS s (f.length : Int)) := by unfold appE; rw [e1, if_neg (by decide), if_neg hr]
    have hN := useN_le s f.length hl
    obtain ⟨q, hq⟩ : ∃ q : Nat, useN s (f.length : Int) = (q : Int) := ⟨(useN s (f.length : Int)).toNat, by omega⟩
    have hS : (appS s klog f.length).room = s.room ∧ (appS s klog f.length).used = s.used + q ∧ (appS s klog f.length).d = (useS s (f.length : Int)).d ∧ (appS s klog f.length).a = (useS s (f.length : Int)).a := by
      unfold appS
      rw [if_pos hB, hq]
      by_cases h0 : 0 < (q : Int) ∨ f.length = 0
      · rw [if_pos h0]; exact ⟨hro, rfl, rfl, rfl⟩
      · rw [if_neg h0]; exact ⟨hro, by rw [hu]; omega, rfl, rfl⟩
    have hL : appL s L klog f = if 0 < (q : Int) ∨ f.length = 0 then putL L klog (dv, bytL L klog ++ f.take q) else L := by
      unfold appL; rw [if_pos hB, hq]; simp
    have hql : q ≤ f.length := by omega
    have htl : (f.take q).length = q := by rw [List.length_take]; omega
    refine ⟨hS.1, fun k hk => ?_, ?_, by rw [hS.2.1]; omega, ?_⟩
    · rw [hL]
      split
      · rw [byt_put, if_neg hk, has_put, if_neg hk]; exact ⟨rfl, rfl⟩
      · exact ⟨rfl, rfl⟩
    · rw [hL]
      split
      · rw [byt_put, if_pos rfl, List.length_append, htl]; omega
      · omega
    · rcases use_c s (f.length : Int) with ⟨c1, c2, c3⟩ | ⟨c1, c2, c3, c4⟩
      · right
        have hqf : q = f.length := by rw [hq] at c1; omega
        refine ⟨by rw [hE, dwn_f (by rw [c2, hd])], ?_, by rw [hS.2.2.1, c2, hd], by rw [hS.2.2.2, c3]⟩
        rw [hL, if_pos (.inl (by omega)), hqf, List.take_length]
        exact Cl.put L dv (by rw [hc.1, hsn])
      · left
        refine ⟨by rw [hE, dwn_t c4], c1, ?_⟩
        rw [hL]
        by_cases h0 : q = 0
        · rw [if_neg (by omega)]
          exact hc.has
        · rw [if_pos (.inl (by omega))]
          have hqf : q < f.length := by rw [c3] at hq; omega
          exact ⟨f.take q, hfb q hqf, by rw [byt_put, if_pos rfl, hc.1], fun x hx => hfk x (List.mem_of_mem_take hx), fun _ => by rw [has_put, if_pos rfl]⟩
/-! ### A file that is written anew beside, and renamed -/
def gE (kn kf : ByteArray) (s : S) (L : List Fi) (bs : List Int) : Int := if wriE s L kn bs.length = 0 then renE (wriS s L kn bs.length) (wriL s L kn bs) kn kf else wriE s L kn bs.length
def gS (kn kf : ByteArray) (s : S) (L : List Fi) (bs : List Int) : S := if wriE s L kn bs.length = 0 then renS (wriS s L kn bs.length) (wriL s L kn bs) kn kf else wriS s L kn bs.length
def gL (kn kf : ByteArray) (s : S) (L : List Fi) (bs : List Int) : List Fi := if wriE s L kn bs.length = 0 then renL (wriS s L kn bs.length) (wriL s L kn bs) kn kf else wriL s L kn bs
/-- Full; or the store died; or done. -/
def GC (kn kf : ByteArray) (s : S) (L : List Fi) (bs : List Int) (E : Int) (s' : S) (L' : List Fi) : Prop :=
  (E = 7 ∧ s' = s ∧ L' = L ∧ s.room < s.used - ((bytL L kn).length : Int) + (bs.length : Int)) ∨
  (s'.room = s.room ∧ (usedL L' : Int) ≤ usedL L + bs.length ∧
    ((E = 14 ∧ s.a = true ∧ ∀ k, kn ≠ k → bytL L' k = bytL L k ∧ hasL L' k = hasL L k) ∨ (E = 0 ∧ s'.used = (usedL L' : Int) ∧ s'.d = false ∧ lefO s' ∧ s'.a = s.a ∧ bytL L' kf = bs ∧ hasL L' kf = true ∧ hasL L' kn = false ∧ ∀ k, kn ≠ k → kf ≠ k → bytL L' k = bytL L k ∧ hasL L' k = hasL L k)))
theorem g_c {kn kf : ByteArray} {s : S} {L : List Fi} {bs : List Int} (hd : s.d = false) (hl : lefO s) (hk : KeysL L) (o1 : rdy false [kn] = 0) (o2 : rdy false [kf, kn] = 0) (hne : ¬ kn = kf) : GC kn kf s L bs (gE kn kf s L bs) (gS kn kf s L bs) (gL kn kf s L bs) := by
  have e1 : rdy s.d [kn] = 0 := by rw [hd]; exact o1
  by_cases hr : s.room < s.used - ((bytL L kn).length : Int) + (bs.length : Int)
  · left
    have hE : wriE s L kn bs.length = 7 := by unfold wriE; rw [e1, if_neg (by decide), if_pos hr]
    have hB : ¬ wriB s L kn bs.length := fun h => h.2 hr
    refine ⟨?_, ?_, ?_, hr⟩
    · unfold gE; rw [hE, if_neg (by decide)]
    · unfold gS wriS; rw [hE, if_neg (by decide), if_neg hB]
    · unfold gL wriL; rw [hE, if_neg (by decide), if_neg hB]
  · right
    have hm : (1 : Int) + (bs.length : Int) = ((1 + bs.length : Nat) : Int) := by omega
    have hB : wriB s L kn bs.length := ⟨e1, hr⟩
    have hE : wriE s L kn bs.length = dwn (useS s (1 + (bs.length : Int))) := by unfold wriE; rw [e1, if_neg (by decide), if_neg hr]
    obtain ⟨hu, hro⟩ := use_ur s (1 + (bs.length : Int))
    have hN := useN_le s (1 + bs.length) hl
    rw [← hm] at hN
    obtain ⟨q, hq⟩ : ∃ q : Nat, useN s (1 + (bs.length : Int)) = (q : Int) := ⟨(useN s (1 + (bs.length : Int))).toNat, by omega⟩
    have hS : (wriS s L kn bs.length).room = s.room ∧ (wriS s L kn bs.length).d = (useS s (1 + (bs.length : Int))).d ∧ (wriS s L kn bs.length).a = (useS s (1 + (bs.length : Int))).a := by
      unfold wriS
      rw [if_pos hB]
      split
      · exact ⟨hro, rfl, rfl⟩
      · exact ⟨hro, rfl, rfl⟩
    have hLo : ∀ k, kn ≠ k → bytL (wriL s L kn bs) k = bytL L k ∧ hasL (wriL s L kn bs) k = hasL L k := fun k hkk => by
      unfold wriL
      rw [if_pos hB]
      split
      · rw [byt_put, has_put, if_neg hkk, if_neg hkk]; exact ⟨rfl, rfl⟩
      · exact ⟨rfl, rfl⟩
    have hUs : usedL (wriL s L kn bs) ≤ usedL L + bs.length := by
      unfold wriL
      rw [if_pos hB]
      split
      · have h1 := used_put (L := L) (k := kn) (v := dv) (l := bs.take (useN s (1 + (bs.length : Int)) - 1).toNat)
        have h2 : (bs.take (useN s (1 + (bs.length : Int)) - 1).toNat).length ≤ bs.length := by rw [List.length_take]; omega
        omega
      · omega
    rcases use_c s (1 + (bs.length : Int)) with ⟨c1, c2, c3⟩ | ⟨c1, c2, c3, c4⟩
    · have hE0 : wriE s L kn bs.length = 0 := by rw [hE, dwn_f (by rw [c2, hd])]
      have hL1 : wriL s L kn bs = putL L kn (dv, bs) := by
        unfold wriL
        rw [if_pos hB, c1, if_pos (by omega)]
        congr 2
        have : ((1 : Int) + (bs.length : Int) - 1).toNat = bs.length := by omega
        rw [this, List.take_length]
      have f1 : gE kn kf s L bs = renE (wriS s L kn bs.length) (wriL s L kn bs) kn kf := by unfold gE; rw [hE0, if_pos rfl]
      have f2 : gL kn kf s L bs = renL (wriS s L kn bs.length) (wriL s L kn bs) kn kf := by unfold gL; rw [hE0, if_pos rfl]
      have f3 : gS kn kf s L bs = renS (wriS s L kn bs.length) (wriL s L kn bs) kn kf := by unfold gS; rw [hE0, if_pos rfl]
      obtain ⟨s1, hs1⟩ : ∃ s1, s1 = wriS s L kn bs.length := ⟨_, rfl⟩
      rw [← hs1] at hS f1 f2 f3
      have hd1 : s1.d = false := by rw [hS.2.1, c2, hd]
      have ha1 : s1.a = s.a := by rw [hS.2.2, c3]
      have hk1 : KeysL (wriL s L kn bs) := by rw [hL1]; exact keys_put hk _ _
      have hfn : fnd s1.d (wriL s L kn bs) kn [kf, kn] = 0 := by
        unfold fnd
        rw [hd1, o2, if_neg (by decide), hL1, has_put, if_pos rfl]
        rfl
      obtain ⟨hu1, hro1⟩ := use_ur s1 1
      have hR : renE s1 (wriL s L kn bs) kn kf = dwn (useS s1 1) := by unfold renE; rw [hfn, if_neg (by decide)]
      have hRS : renS s1 (wriL s L kn bs) kn kf = { useS s1 1 with used := (usedL (renL s1 (wriL s L kn bs) kn kf) : Int) } := by unfold renS; rw [if_pos hfn]
      have hlo1 : lefO s1 := fun ha => by
        rw [hs1]
        have h3 := (useS_keeps s (1 + (bs.length : Int)) (by omega) hl).2.2
        have h4 : (useS s (1 + (bs.length : Int))).a = true := by rw [← hS.2.2]; exact ha
        unfold wriS
        rw [if_pos hB]
        split
        · exact h3 h4
        · exact h3 h4
      rcases use_c s1 1 with ⟨g1, g2, g3⟩ | ⟨g1, g2, g3, g4⟩
      · have hRL : renL s1 (wriL s L kn bs) kn kf = putL (delL (wriL s L kn bs) kn) kf (dv, bs) := by
          unfold renL
          rw [if_pos ⟨hfn, g1⟩, hL1, byt_put, if_pos rfl]
        refine ⟨by rw [f3, hRS]; exact hro1.trans hS.1, ?_, .inr ⟨by rw [f1, hR, dwn_f (by rw [g2, hd1])], by rw [f3, hRS, f2], by rw [f3, hRS]; exact g2.trans hd1, by rw [f3, hRS]; exact (useS_keeps s1 1 (by omega) hlo1).2.2, by rw [f3, hRS]; exact g3.trans ha1, by rw [f2, hRL, byt_put, if_pos rfl], by rw [f2, hRL, has_put, if_pos rfl], by rw [f2, hRL, has_put, if_neg (fun e => hne e.symm), has_del hk1, if_pos rfl], fun k h1 h2 => ?_⟩⟩
        · rw [f2, hRL]
          have h1 := used_put (L := delL (wriL s L kn bs) kn) (k := kf) (v := dv) (l := bs)
          have h2 := used_del (wriL s L kn bs) kn
          have h3 : (bytL (wriL s L kn bs) kn).length = bs.length := by rw [hL1, byt_put, if_pos rfl]
          omega
        · rw [f2, hRL, byt_put, has_put, if_neg h2, if_neg h2, byt_del hk1, has_del hk1, if_neg h1, if_neg h1]
          exact hLo k h1
      · have hn1 : ¬ useN s1 1 = 1 := by rw [g3]; omega
        have hRL : renL s1 (wriL s L kn bs) kn kf = wriL s L kn bs := by
          unfold renL
          rw [if_neg (fun h => hn1 h.2)]
        refine ⟨by rw [f3, hRS]; exact hro1.trans hS.1, by rw [f2, hRL]; omega, .inl ⟨by rw [f1, hR, dwn_t g4], by rw [← ha1]; exact g1, fun k h1 => by rw [f2, hRL]; exact hLo k h1⟩⟩
    · have hE14 : wriE s L kn bs.length = 14 := by rw [hE, dwn_t c4]
      have f1 : gE kn kf s L bs = 14 := by unfold gE; rw [hE14, if_neg (by decide)]
      have f2 : gL kn kf s L bs = wriL s L kn bs := by unfold gL; rw [hE14, if_neg (by decide)]
      have f3 : gS kn kf s L bs = wriS s L kn bs.length := by unfold gS; rw [hE14, if_neg (by decide)]
      exact ⟨by rw [f3]; exact hS.1, by rw [f2]; omega, .inl ⟨f1, c1, fun k h1 => by rw [f2]; exact hLo k h1⟩⟩
end Go.Proofs.YtjijgoflbjbnfaaGreat.Vt
