/-
  The contracts of Save and Load at any store. Conditions: at most a million bytes.
-/
import Derived.Test.YtklngdmpledgeaaPB10
import Derived.Test.YtklngdmpledgeaaSAny
import Derived.Test.YtklngdmpledgeaaPB17
namespace Go.Proofs.Ytklngdmpledgeaa.Sp
open Go.RowKit Fr Sr
attribute [local go_sem] Oper.semAt_some

abbrev ksnap : ByteArray := { data := #[115, 110, 97, 112] }
abbrev knew : ByteArray := { data := #[115, 110, 97, 112, 46, 110, 101, 119] }
theorem wri_alike {L L' : List Fi} (h : Sr.Alike L L') (s : S) (k : ByteArray) (bs : List Int) : wriE s L' k bs.length = wriE s L k bs.length ∧ wriS s L' k bs.length = wriS s L k bs.length ∧ Sr.Alike (wriL s L k bs) (wriL s L' k bs) := by
  have e := (h k).2
  have hB : wriB s L' k bs.length = wriB s L k bs.length := by unfold wriB; rw [e]
  refine ⟨by unfold wriE; rw [e], ?_, ?_⟩
  · unfold wriS
    by_cases q : wriB s L k bs.length
    · rw [if_pos q, if_pos (hB.mpr q), e]
    · rw [if_neg q, if_neg (fun z => q (hB.mp z))]
  · unfold wriL
    by_cases q : wriB s L k bs.length
    · rw [if_pos q, if_pos (hB.mpr q)]
      split
      · exact h.put _ _ _ _
      · exact h
    · rw [if_neg q, if_neg (fun z => q (hB.mp z))]
      exact h
theorem fnd_al {L L' : List Fi} (h : Sr.Alike L L') (d : Bool) (k : ByteArray) (ns : List ByteArray) : fnd d L' k ns = fnd d L k ns := by
  unfold fnd
  rw [(h k).1]
theorem ren_alike {L L' : List Fi} (h : Sr.Alike L L') (hk : KeysL L) (hk' : KeysL L') (s : S) (k tn : ByteArray) : renE s L' k tn = renE s L k tn ∧ renS s L' k tn = renS s L k tn ∧ Sr.Alike (renL s L k tn) (renL s L' k tn) := by
  have hf := fnd_al h s.d k [tn, k]
  have hl : Sr.Alike (renL s L k tn) (renL s L' k tn) := by
    unfold renL
    rw [hf, (h k).2]
    split
    · exact (h.del hk hk' k).put _ _ _ _
    · exact h
  have hkl : ∀ {M : List Fi}, KeysL M → KeysL (renL s M k tn) := fun {M} hm => by
    unfold renL
    split
    · exact keys_put (keys_del hm k) _ _
    · exact hm
  refine ⟨?_, ?_, hl⟩
  · unfold renE; rw [hf]
  · unfold renS; rw [hf, same_used (hkl hk) (hkl hk') hl]
theorem keys_wri {s : S} {L : List Fi} (k : ByteArray) (bs : List Int) (h : KeysL L) : KeysL (wriL s L k bs) := by
  unfold wriL
  split
  · split
    · exact keys_put h _ _
    · exact h
  · exact h
/-- What Save tells, and what it leaves. -/
def svE (s : S) (L : List Fi) (bs : List Int) : Int := if wriE s L knew bs.length = 0 then renE (wriS s L knew bs.length) (wriL s L knew bs) knew ksnap else wriE s L knew bs.length
def svS (s : S) (L : List Fi) (bs : List Int) : S := if wriE s L knew bs.length = 0 then renS (wriS s L knew bs.length) (wriL s L knew bs) knew ksnap else wriS s L knew bs.length
def svL (s : S) (L : List Fi) (bs : List Int) : List Fi := if wriE s L knew bs.length = 0 then renL (wriS s L knew bs.length) (wriL s L knew bs) knew ksnap else wriL s L knew bs
set_option maxRecDepth 100000 in
set_option maxHeartbeats 4000000 in
theorem save_any {w : World} {p : Nat} {s : S} {mb : Option Nat} {L : List Fi} (h : StR w p s mb L) {A : Option Addr} {n c : Nat} {ls : List (List Int)} (hr : RowsA w (.slice A n c) ls) (hb : ∀ l ∈ ls, bok l ∧ l.length ≤ 2000000) (hf : fitsS ls = true) (ht : tot ls ≤ 1000000) :
    Calls Try.prog 59 #[.pointer (some ⟨p, 0, none⟩), .slice A n c] w fun e w' => e = .returned (.int .i64 (svE s L (encS ls))) ∧ Mo w w' p mb L (svS s L (encS ls)) (svL s L (encS ls)) := by
  have HEN := Lib.hid (encode_ok w A n c ls hr hb hf)
  obtain ⟨bs, hbs⟩ : ∃ bs, bs = encS ls := ⟨_, rfl⟩
  obtain ⟨m, hm⟩ : ∃ m, m = tot ls := ⟨_, rfl⟩
  have hml : m = bs.length := by rw [hm, hbs, encS_len]
  rw [← hbs, ← hm] at HEN
  rw [← hbs]
  rw [← hm] at ht
  have HH := Lib.hid h
  have HML := Lib.hid hml
  have HT := Lib.hid ht
  obtain ⟨E, hE⟩ : ∃ E, E = wriE s L knew bs.length := ⟨_, rfl⟩
  clear h hr hb hf hbs hm ht hml
  have hwr : ∀ (w1 : World) (A1 : Option Addr) (q1 c1 : Nat), Below w.heap.size w w1 → q1 = m → (BAt w1 (.slice A1 q1 c1) bs ∧ BK (fun k => w.heap.size ≤ k) (.slice A1 q1 c1) bs) → Calls Try.prog 17 #[.pointer (some ⟨p, 0, none⟩), .string knew, .slice A1 q1 c1] w1 fun e w' => e = .returned (.int .i64 (wriE s L knew bs.length)) ∧ Mo w1 w' p mb L (wriS s L knew bs.length) (wriL s L knew bs) := fun w1 A1 q1 c1 hb1 hq1 hba => by
    have h1 := Write_any knew (HH.out.below hb1) (A := A1) (n := q1) (c := c1) (bs := bs) (by have := HT.out; omega) (by rw [hq1]; exact HML.out.symm) (fun W' ho => bat_kept hba.1 (fun hp a n c e => ho.2 a.block (bat_lt hba.1 hp e) (fun hown => by have := own_lt HH.out hown; have := hba.2 hp a n c e; omega)))
    rw [hq1, HML.out] at h1
    rw [hq1, HML.out]
    exact h1
  have HWR := Lib.hid hwr
  clear hwr
  by_cases hz : E = 0
  · have hz0 : wriE s L knew bs.length = 0 := hE.symm.trans hz
    have e1 : svE s L bs = renE (wriS s L knew bs.length) (wriL s L knew bs) knew ksnap := if_pos hz0
    have e2 : svS s L bs = renS (wriS s L knew bs.length) (wriL s L knew bs) knew ksnap := if_pos hz0
    have e3 : svL s L bs = renL (wriS s L knew bs.length) (wriL s L knew bs) knew ksnap := if_pos hz0
    rw [e1, e2, e3]
    rw [hz0] at HWR
    have HK1 := Lib.hid (keys_wri (s := s) knew bs HH.out.keys)
    obtain ⟨s1, hs1⟩ : ∃ s1, s1 = wriS s L knew bs.length := ⟨_, rfl⟩
    obtain ⟨L1, hL1⟩ : ∃ L1, L1 = wriL s L knew bs := ⟨_, rfl⟩
    rw [← hL1] at HK1
    rw [← hs1, ← hL1] at HWR ⊢
    clear hs1 hL1 hz0 e1 e2 e3 hE hz
    go_enter Try.func59, Try.ntmps59
    go_wp2_with (first
      | (go_at_call 21; (with_reducible refine HR.out.mono ?_); rintro e w4 ⟨rfl, mb4, L4, mv4, al4⟩; have HM4 := Lib.hid mv4; have HAL4 := Lib.hid al4; clear mv4 al4)
      | (go_at_call 17; (with_reducible refine (HWR.out _ _ _ _ HB1.out HQ1.out HBA.out).mono ?_); rintro e w3 ⟨rfl, mb3, L3, mv3, al3⟩
         have HM3 := Lib.hid mv3
         have hr := Rename_any knew ksnap mv3.st
         have hal := ren_alike al3 HK1.out mv3.st.keys s1 knew ksnap
         rw [hal.1, hal.2.1] at hr
         have HR := Lib.hid hr
         have HA3 := Lib.hid hal.2.2
         clear mv3 al3 hr hal)
      | (go_at_call 51; (with_reducible refine HEN.out.mono ?_); rintro e w1 ⟨A1, q1, c1, rfl, hq1, hba, hb1⟩; have HB1 := Lib.hid hb1; have HQ1 := Lib.hid hq1; have HBA := Lib.hid hba; clear hb1 hq1 hba))
    go_ret
    exact ⟨rfl, mb4, L4, (Mv.of_below HH.out HB1.out).trans (HM3.out.trans HM4.out), HA3.out.trans HAL4.out⟩
  · have hz0 : ¬ wriE s L knew bs.length = 0 := fun e => hz (hE.trans e)
    have e1 : svE s L bs = E := (if_neg hz0).trans hE.symm
    have e2 : svS s L bs = wriS s L knew bs.length := if_neg hz0
    have e3 : svL s L bs = wriL s L knew bs := if_neg hz0
    rw [e1, e2, e3]
    rw [← hE] at HWR
    clear e1 e2 e3 hE hz0
    go_enter Try.func59, Try.ntmps59
    go_wp2_with (first
      | (go_at_call 17; (with_reducible refine (HWR.out _ _ _ _ HB1.out HQ1.out HBA.out).mono ?_); rintro e w3 ⟨rfl, mb3, L3, mv3, al3⟩; have HM3 := Lib.hid mv3; have HAL3 := Lib.hid al3; clear mv3 al3)
      | (go_at_call 51; (with_reducible refine HEN.out.mono ?_); rintro e w1 ⟨A1, q1, c1, rfl, hq1, hba, hb1⟩; have HB1 := Lib.hid hb1; have HQ1 := Lib.hid hq1; have HBA := Lib.hid hba; clear hb1 hq1 hba))
    go_ret
    exact ⟨rfl, mb3, L3, (Mv.of_below HH.out HB1.out).trans HM3.out, HAL3.out⟩
/-- What Load tells of the file's bytes G. -/
def LodR (N : Nat) (G : List Int) (e : Ending) (w' : World) : Prop := ∃ A n c, e = .returned (.tuple #[.slice A n c, .int .i64 (if decE G = 0 then 0 else 13)]) ∧ RowsF N w' (.slice A n c) (decL G)
set_option maxRecDepth 100000 in
set_option maxHeartbeats 4000000 in
theorem load_any {w : World} {p : Nat} {s : S} {mb : Option Nat} {L : List Fi} (h : StR w p s mb L) (hb : bok (bytL L ksnap)) :
    Calls Try.prog 58 #[.pointer (some ⟨p, 0, none⟩)] w fun e w' => LodR w.heap.size (bytL L ksnap) e w' ∧ Below w.heap.size w w' := by
  have hrd := Sr.read_any w p s mb L ksnap h
  have hle : (bytL L ksnap).length ≤ 2000000 := by
    have h1 := byt_used L ksnap
    have h2 := h.room
    omega
  obtain ⟨G, hG⟩ : ∃ G, G = bytL L ksnap := ⟨_, rfl⟩
  rw [← hG] at hrd hle hb ⊢
  obtain ⟨d, hd⟩ : ∃ d, d = decE G := ⟨_, rfl⟩
  have HRD := Lib.hid hrd
  have HLE := Lib.hid (And.intro hle hb)
  have HD := Lib.hid hd
  unfold LodR
  clear hrd hle hb hG h
  have hdl : decL G = if d = 0 then decL G else [] := by
    split
    · rfl
    · rename_i h5
      unfold decL
      rw [if_neg (by rw [← hd]; exact h5)]
  have HDL := Lib.hid hdl
  clear hdl
  rw [← hd]
  clear hd
  go_enter Try.func58, Try.ntmps58
  go_upto_region 3 with (first
    | (go_at_call 52; (with_reducible refine HDE.out.mono ?_); rintro e w2 ⟨⟨A2, n2, c2, rfl, hrow⟩, hb2⟩
       have HROW := Lib.hid hrow
       have HB2 := Lib.hid (HB1.out.trans (hb2.mono HB1.out.size))
       clear hrow hb2)
    | (go_at_call 28; (with_reducible refine HRD.out.mono ?_); rintro e w1 ⟨A1, n1, c1, rfl, hn1, ho1, hb1⟩
       have hba : BAt w1 (.slice A1 n1 c1) G := BAt.of_own ho1
       have hde := decode_any w1 A1 n1 c1 G hba HLE.out.2 (by rw [hn1]; exact HLE.out.1)
       unfold DecR at hde
       rw [← HD.out] at hde
       have HDE := Lib.hid hde
       have HB1 := Lib.hid hb1
       clear hn1 ho1 hb1 hba hde))
  by_cases hd0 : d = 0
  · subst hd0
    go_wp2
    go_ret2
    exact ⟨⟨A2, n2, c2, rfl, HROW.out.from HB1.out.size⟩, HB2.out⟩
  · go_wp2
    go_ret2
    refine ⟨⟨none, 0, 0, rfl, ?_⟩, HB2.out⟩
    rw [HDL.out, if_neg hd0]
    exact RowsF.nil _ _ _ _
end Go.Proofs.Ytklngdmpledgeaa.Sp
