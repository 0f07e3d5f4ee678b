/-
  SnapBytes' law. Conditions: none.
-/
import Derived.Test.YtklngdmpledgeaaPB22
import Derived.Test.YtklngdmpledgeaaPB23
import Derived.Test.YtklngdmpledgeaaSBytes
import Derived.ProofKit
import Derived.OpenShut
import Derived.ChangeOld
import Derived.Lib.SmallJoins
import Derived.ChangeMaps5
import Derived.Test.YtklngdmpledgeaaPB2
namespace Go.Proofs.Ytklngdmpledgeaa.Sp
open Go.RowKit Fr Sr
attribute [local go_sem] Oper.semAt_some

theorem few_bnd {ls : List (List Int)} (h : FewB ls) : ls.length ≤ 20000 ∧ ∀ x ∈ ls, x.length ≤ 2000000 := ⟨by have := h.len; omega, fun x hx => (h.bok x hx).2⟩
set_option maxRecDepth 100000 in
set_option maxHeartbeats 8000000 in
theorem law_bytes (w : World) (A0 : Option Addr) (n0 c0 : Nat) (h0 : RIn w A0 n0 c0) (A2 : Option Addr) (n2 c2 : Nat) (l2 : List Int) (h2 : BAt w (.slice A2 n2 c2) l2) (hb2 : bok l2) :
    Calls Try.prog 10 #[.slice A0 n0 c0, .slice A2 n2 c2] w fun e w' => e = .returned (.bool true) ∧ Below w.heap.size w w' := by
  obtain ⟨la, hpa, hba⟩ := h0
  have HFA := Lib.hid (few_any w A0 n0 c0 la hpa)
  have hka := few_ok hba
  obtain ⟨LA, hLA⟩ : ∃ LA, LA = fewS la := ⟨_, rfl⟩
  rw [← hLA] at HFA hka
  have HKA := Lib.hid hka
  obtain ⟨q2, hq2⟩ : ∃ q2, q2 = min n2 600 := ⟨_, rfl⟩
  have hln := h2.len
  have hmin2 : (if (600 : Int) < (n2 : Int) then 600 else (n2 : Int)) = (q2 : Int) := by split <;> omega
  have hmin3 : min (n2 : Int) 600 = (q2 : Int) := by omega
  have hs2 := slice_to A2 n2 c2 q2 (by omega)
  obtain ⟨L2, hL2⟩ : ∃ L2, L2 = l2.take q2 := ⟨_, rfl⟩
  have htk := (h2.take q2 (by omega)).1
  rw [← hL2] at htk
  have H2 : Hid (BAt w (.slice A2 q2 c2) L2 ∧ bok L2 ∧ q2 ≤ 2000000 ∧ L2.length ≤ 2000000) := ⟨htk, by rw [hL2]; exact bok_take hb2 _, by omega, by rw [hL2, List.length_take]; omega⟩
  obtain ⟨d, hd⟩ : ∃ d, d = decE L2 := ⟨_, rfl⟩
  have HDD := Lib.hid hd
  have HBD := Lib.hid (decL_bnd H2.out.2.2.2)
  obtain ⟨z, hz⟩ : ∃ z, z = tot LA := ⟨_, rfl⟩
  have HZT : Hid (z = tot LA ∧ z ≤ 1300 ∧ sizeE LA = (z : Int)) := ⟨hz, by rw [hz]; exact hka.tot, by unfold sizeE; rw [hka.fits, hz]; rfl⟩
  clear hpa hba hka hLA h2 hb2 hq2 hln hL2 htk hd hz
  go_enter Try.func10, Try.ntmps10
  go_upto_region 7 with (first
    | (go_at_call 52; (with_reducible refine HDC5.out.mono ?_); rintro e w5 ⟨⟨Ao, no, co, rfl, hro⟩, hb5⟩
       have HO5 := Lib.hid hro.toA
       have HRA5 := Lib.hid (HRA4.out.below hb5)
       have HB5 := Lib.hid (HB4.out.trans (hb5.mono HB4.out.size))
       have HM5 := Lib.hid (HM4.out.below hb5)
       have HN5 := Lib.hid (HN4.out.below hb5)
       have HC5 := Lib.hid (HC4.out.kept hb5)
       clear hro hb5)
    | (go_at_call 53; (with_reducible refine HRD.out.mono ?_); rintro e w4 ⟨⟨Az, nz, cz, rfl, hrz⟩, hb4⟩
       have HN4 := Lib.hid hrz.toA
       have HRA4 := Lib.hid (HRA3.out.below hb4)
       have HM4 := Lib.hid (HM3.out.below hb4)
       have HC4 := Lib.hid (HC3.out.kept hb4)
       have HB4 := Lib.hid (HB3.out.trans (hb4.mono HB3.out.size))
       have hde := decode_any w4 Ac z cc (encS LA) HC4.out (enc_bok HKA.out.bok (by have := HKA.out.len; omega)) (by have := HZT.out.2.1; omega)
       unfold DecR at hde
       rw [(dec_enc LA HKA.out.fits).1, (dec_enc LA HKA.out.fits).2] at hde
       have HDC5 := Lib.hid hde
       clear hrz hb4 hde)
    | (go_at_call 52; (with_reducible refine HDC3.out.mono ?_); rintro e w3 ⟨⟨Am, nm, cm, rfl, hrm⟩, hb3⟩
       have HM3 := Lib.hid hrm.toA
       have HRA3 := Lib.hid (HRA2.out.below hb3)
       have HC3 := Lib.hid (HC2.out.kept hb3)
       have HB3 := Lib.hid (HB2.out.trans (hb3.mono HB2.out.size))
       have hrd := rdecode_any w3 A2 q2 c2 L2 (H2.out.1.kept HB3.out) H2.out.2.1 H2.out.2.2.1
       unfold DecR at hrd
       rw [← HDD.out] at hrd
       have HRD := Lib.hid hrd
       clear hrm hb3 hrd)
    | (go_at_call 51; (with_reducible refine HEN.out.mono ?_); rintro e w2 ⟨Ac, qc, cc, rfl, hqc, hbac, hb2⟩
       have hqz : z = qc := by rw [hqc]; exact HZT.out.1
       subst hqz
       have HC2 := Lib.hid hbac.1
       have HB2 := Lib.hid (HB1.out.trans (hb2.mono HB1.out.size))
       have HRA2 := Lib.hid (HRA1.out.below hb2)
       have hde := decode_any w2 A2 q2 c2 L2 (H2.out.1.kept HB2.out) H2.out.2.1 H2.out.2.2.1
       unfold DecR at hde
       rw [← HDD.out] at hde
       have HDC3 := Lib.hid hde
       clear hqc hbac hb2 hde)
    | (go_at_call 50; (with_reducible refine HFA.out.mono ?_); rintro e w1 ⟨Aa, na, ca, rfl, hra, hb1⟩
       have HRA1 := Lib.hid hra
       have HB1 := Lib.hid hb1
       have HEN := Lib.hid (encode_ok w1 Aa na ca LA hra HKA.out.bok HKA.out.fits)
       clear hra hb1))
  go_wp2_with (first
    | (go_at_call 57; (with_reducible refine (same_ge w11 _ _ LA HO11.out HRA11.out (few_bnd HKA.out)).mono ?_); rintro e w12 ⟨rfl, hb12⟩; have HB12 := Lib.hid (HB11.out.trans (hb12.mono HB11.out.size)); clear hb12)
    | (go_at_call 57; (with_reducible refine (same_ge w10 _ _ (decL L2) HM10.out HN10.out HBD.out).mono ?_); rintro e w11 ⟨rfl, hb11⟩
       have HO11 := Lib.hid (HO10.out.below hb11)
       have HRA11 := Lib.hid (HRA10.out.below hb11)
       have HB11 := Lib.hid (HB10.out.trans (hb11.mono HB10.out.size))
       clear hb11)
    | (go_at_call 56; (with_reducible refine HSZ.out.mono ?_); rintro e w10 ⟨rfl, hb10⟩
       have HM10 := Lib.hid (HM9.out.below hb10)
       have HN10 := Lib.hid (HN9.out.below hb10)
       have HO10 := Lib.hid (HO9.out.below hb10)
       have HRA10 := Lib.hid (HRA9.out.below hb10)
       have HB10 := Lib.hid (HB9.out.trans (hb10.mono HB9.out.size))
       clear hb10)
    | (go_at_call 32; (with_reducible refine (bsame_any w8 _ _ (encS LA) (encS LA) HC8.out HE8.out (by have := HZT.out; rw [encS_len]; omega) (by have := HZT.out; rw [encS_len]; omega)).mono ?_); rintro e w9 ⟨he9, hb9⟩
       rw [decide_eq_true rfl] at he9
       subst he9
       have HM9 := Lib.hid (HM8.out.below hb9)
       have HN9 := Lib.hid (HN8.out.below hb9)
       have HO9 := Lib.hid (HO8.out.below hb9)
       have HRA9 := Lib.hid (HRA8.out.below hb9)
       have HB9 := Lib.hid (HB8.out.trans (hb9.mono HB8.out.size))
       have hsz := size_any w9 Aa na ca LA HRA9.out (fun l hl => (HKA.out.bok l hl).2) (by have h1 := rows_len HRA9.out; have := HKA.out.len; omega)
       rw [HZT.out.2.2] at hsz
       have HSZ := Lib.hid hsz
       clear hb9 hsz)
    | (go_at_call 55; (with_reducible refine HREN.out.mono ?_); rintro e w8 ⟨Ae, qe, ce, rfl, hqe, hbae, hb8⟩
       have hqz : z = qe := by rw [hqe]; exact HZT.out.1
       subst hqz
       have HE8 := Lib.hid hbae
       have HC8 := Lib.hid (HC7.out.kept hb8)
       have HM8 := Lib.hid (HM7.out.below hb8)
       have HN8 := Lib.hid (HN7.out.below hb8)
       have HO8 := Lib.hid (HO7.out.below hb8)
       have HRA8 := Lib.hid (HRA7.out.below hb8)
       have HB8 := Lib.hid (HB7.out.trans (hb8.mono HB7.out.size))
       clear hqe hbae hb8)
    | (go_at_call 54; (with_reducible refine (known_any w5).mono ?_); rintro e w7 ⟨rfl, hb7⟩
       have HM7 := Lib.hid (HM5.out.below hb7)
       have HN7 := Lib.hid (HN5.out.below hb7)
       have HO7 := Lib.hid (HO5.out.below hb7)
       have HC7 := Lib.hid (HC5.out.kept hb7)
       have HRA7 := Lib.hid (HRA5.out.below hb7)
       have HB7 := Lib.hid (HB5.out.trans (hb7.mono HB5.out.size))
       have HREN := Lib.hid (rencode_any w7 Aa na ca LA HRA7.out HKA.out)
       clear hb7))
  go_ret
  exact ⟨rfl, HB12.out⟩
end Go.Proofs.Ytklngdmpledgeaa.Sp

namespace Go.Proofs.Ytklngdmpledgeaa.Fr
open Go.ChangeShapes Go.WideShapes Go.ChangeAt Go.RowKit Go.Joins Go.Deep

/-- A slice of bytes that came in holds bytes. -/
theorem open_bytes {H : Type} {enc : TypeId × Value → H} {w : World} {held : Bool} {fuel : Nat} {cs : List Value} {x : DataW H × List MemPlace} (h : DataW.trod enc Try.prog w 0 (fun _ => true) held fuel 32 cs = some x) :
    ∃ A len cap l, cs = [.slice A len cap] ∧ BAt w (.slice A len cap) l ∧ bok l := by
  rcases open_ints Try.underlying32 Try.underlying5 (by kernel_rfl) h with ⟨hcs, _⟩ | ⟨a, len, c, zs, hcs, _, hl, hm, hz, _, hcell, hwz⟩
  · exact ⟨none, 0, 0, [], hcs, BAt.nil w, fun x hx => absurd hx (List.not_mem_nil)⟩
  · have hzl : len ≤ zs.length := by simp at hz; omega
    have hll : (zs.take len).length = len := by rw [List.length_take]; omega
    refine ⟨some a, len, c, zs.take len, hcs, ⟨some a, c, by rw [hll], by rw [hll]; omega, fun hp => ?_⟩, fun y hy => ?_⟩
    · rw [hll] at hp ⊢
      obtain ⟨b, off, spot⟩ := a
      have hc := hcell 0 (by omega)
      have hspot : spot = none := by simpa [Addr.add] using World.cell?_spot hc
      subst hspot
      refine ⟨b, off, rfl, ?_, fun i hi => ?_⟩
      · have := World.block_lt_of_cell? _ _ hc
        simpa [Addr.add] using this
      · have := hcell i (by omega)
        rw [show (Addr.mk b off none).add i = ⟨b, off + i, none⟩ by unfold Addr.add; split <;> simp_all] at this
        rw [this, getD_take hi]
    · have := hwz y (List.mem_of_mem_take hy)
      simp [Lit.wf, IntKind.min, IntKind.max, IntKind.signed, IntKind.bits] at this
      omega
end Go.Proofs.Ytklngdmpledgeaa.Fr

namespace Go.Proofs.Ytklngdmpledgeaa.Fr
open Go.ChangeShapes Go.WideShapes Go.ChangeAt Go.RowKit Go.Joins Go.Deep

theorem rows_list {Q : Nat → List Int → Prop} (m : Nat) (h : ∀ i, i < m → ∃ p, Q i p) : ∃ ps : List (List Int), ps.length = m ∧ ∀ i p, ps[i]? = some p → Q i p := by
  induction m with
  | zero => exact ⟨[], rfl, fun i p hp => by simp at hp⟩
  | succ m ih =>
    obtain ⟨ps, h1, h2⟩ := ih (fun i hi => h i (by omega))
    obtain ⟨p, hp⟩ := h m (by omega)
    refine ⟨ps ++ [p], by simp [h1], fun i q hq => ?_⟩
    rcases Nat.lt_or_ge i ps.length with hi | hi
    · rw [List.getElem?_append_left hi] at hq
      exact h2 i q hq
    · rw [List.getElem?_append_right hi] at hq
      have hi0 : i - ps.length = 0 := by
        rcases Nat.eq_zero_or_pos (i - ps.length) with h0 | h0
        · exact h0
        · rw [List.getElem?_eq_none (by simp; omega)] at hq; cases hq
      rw [hi0] at hq
      have hqp : p = q := by simpa using hq
      subst hqp
      have : i = m := by omega
      subst this
      exact hp
theorem bytes_cellsOf : Try.prog.cellsOf 32 = 1 := by kernel_rfl
/-- A slice of slices of bytes that came in. -/
theorem open_rows {H : Type} {enc : TypeId × Value → H} {w : World} {held : Bool} {fuel : Nat} {cs : List Value} {x : DataW H × List MemPlace} (h : DataW.trod enc Try.prog w 0 (fun _ => true) held fuel 60 cs = some x) :
    ∃ A len cap, cs = [.slice A len cap] ∧ RIn w A len cap := by
  rcases open_slice Try.underlying60 h with h0 | ⟨a, len, cap, m, n, D, Pl, rfl, hb, hl, hm, hmm, rfl, hx⟩
  · exact ⟨none, 0, 0, h0.1, [], ⟨none, 0, rfl, Nat.le_refl _, fun h => absurd h (by decide)⟩, fun l hl => absurd hl (List.not_mem_nil)⟩
  · rw [if_pos rfl] at hmm
    have hcell : ∀ i, i < len → ∃ l : List Int, bok l ∧ ∃ u, w.cell? (a.add i) = some u ∧ BAt w u l := fun i hi => by
      obtain ⟨cs', h1, h2⟩ := hx i (by omega)
      rw [bytes_cellsOf, Nat.mul_one] at h1
      obtain ⟨_, hlen, hcell⟩ := World.cells?_some h1
      obtain ⟨A, n, c, l, h3, h4, h5⟩ := open_bytes h2
      subst h3
      have h6 := hcell 0 (by decide)
      have h7 : (a.add i).add 0 = a.add i := by unfold Addr.add; split <;> simp_all
      rw [h7] at h6
      exact ⟨l, h5, _, h6, h4⟩
    obtain ⟨ls, h1, h2⟩ := rows_list len hcell
    subst h1
    refine ⟨some a, _, cap, rfl, ls, ⟨some a, cap, rfl, hl, fun hp => ?_⟩, fun l hl => ?_⟩
    · obtain ⟨b, off, spot⟩ := a
      obtain ⟨_, _, u, hc, _⟩ := hcell 0 hp
      have hspot : spot = none := by simpa [Addr.add] using World.cell?_spot hc
      subst hspot
      refine ⟨b, off, rfl, ?_, fun i hi => ?_⟩
      · have := World.block_lt_of_cell? _ _ hc
        simpa [Addr.add] using this
      · obtain ⟨_, u, h3, h4⟩ := h2 i _ (List.getElem?_eq_getElem hi)
        rw [show (Addr.mk b off none).add i = ⟨b, off + i, none⟩ by unfold Addr.add; split <;> simp_all] at h3
        refine ⟨u, h3, ?_⟩
        rw [show ls.getD i [] = ls[i] by simp [List.getD, List.getElem?_eq_getElem hi]]
        exact h4
    · obtain ⟨i, hi⟩ := List.mem_iff_getElem?.1 hl
      exact (h2 i l hi).1
end Go.Proofs.Ytklngdmpledgeaa.Fr
