/-
  Readers at whatever mistake, the program's and the reference's, told by functions. Conditions: none.
-/
import Derived.Test.YtganokcmcdkdgaaGreatUChk
import Derived.Test.YtganokcmcdkdgaaGreatPZ16
import Derived.Test.YtganokcmcdkdgaaGreatPZ6
namespace Go.Proofs.YtganokcmcdkdgaaGreat.Pi
open Go.RowKit Sp

/-- Mistake, byte and rest behind a Byte. -/
def byteF (er : Int) (l : List Int) : Int × Int × List Int := if er = 0 then (match l with | [] => (12, 0, []) | x :: r => (0, x, r)) else (er, 0, l)
theorem rbyte_any (w : World) (b : Nat) (er : Int) (l : List Int) (v : Value) (h : Oc.RdR w b er l v) : Calls Tryz.prog 51 #[.pointer (some ⟨b, 0, none⟩)] w fun e w' => e = .returned (.int .u8 (byteF er l).2.1) ∧ Oc.RdTo b w (byteF er l).1 (byteF er l).2.2 w' := by
  unfold byteF
  by_cases he : er = 0
  · subst he
    cases l with
    | nil => exact Oc.rbyte_end w b v h
    | cons x r => exact Oc.rbyte_some w b x r v h
  · rw [if_neg he]
    exact Oc.rbyte_bad w b er l v h he
def cntF (most er : Int) (l : List Int) : Int × Int × List Int :=
  if er = 0 then (if (Oc.rg l).1 = 0 then (if ((Oc.rg l).2.1 : Int) ≤ most then (0, ((Oc.rg l).2.1 : Int), (Oc.rg l).2.2) else (Oc.longE (Oc.rg l).2.1, 0, l)) else ((Oc.rg l).1, 0, l)) else (er, 0, l)
/-- Bytes, as a list. -/
def txtF (er : Int) (l : List Int) : Int × List Int × List Int := if er = 0 then txt l else (er, [], l)
theorem rg_eq {l : List Int} (h : (Oc.rg l).1 = 0) : Oc.rg l = (0, (Oc.rg l).2.1, (Oc.rg l).2.2) := by rw [← h]
theorem rcount_any (w : World) (b : Nat) (er most : Int) (l : List Int) (v : Value) (h : Oc.RdR w b er l v) (hm0 : -9223372036854775808 ≤ most) (hm : most < 9223372036854775808) :
    Calls Tryz.prog 52 #[.pointer (some ⟨b, 0, none⟩), .int .i64 most] w fun e w' => e = .returned (.int .i64 (cntF most er l).2.1) ∧ Oc.RdTo b w (cntF most er l).1 (cntF most er l).2.2 w' := by
  unfold cntF
  by_cases he : er = 0
  · subst he
    rw [if_pos rfl]
    by_cases h0 : (Oc.rg l).1 = 0
    · rw [if_pos h0]
      by_cases hn : ((Oc.rg l).2.1 : Int) ≤ most
      · rw [if_pos hn]; exact Oc.rcount_ok w b _ most l _ v h (rg_eq h0) hn hm
      · rw [if_neg hn]; exact Oc.rcount_long w b _ most l _ v h (rg_eq h0) hn hm0 hm
    · rw [if_neg h0]; exact Oc.rcount_err w b most l v h h0 hm0 hm
  · rw [if_neg he]; exact Oc.rcount_bad w b er most l v h he
theorem rtext_bad (w : World) (b : Nat) (er most : Int) (l : List Int) (v : Value) (h : Oc.RdR w b er l v) (he : ¬ er = 0) :
    Calls Tryz.prog 54 #[.pointer (some ⟨b, 0, none⟩), .int .i64 most] w fun e w' => e = .returned (.string ByteArray.empty) ∧ Oc.RdTo b w er l w' := by
  obtain ⟨_, _, hb2⟩ := Oc.two_boxes w b most
  refine Oc.rtext_of w b most _ _ ((Oc.att_badStr _ b er _ (Oc.block_cell2 (h.below hb2).1).1.1 he).mono ?_)
  rintro e w' ⟨rfl, rfl⟩
  exact ⟨rfl, Oc.RdTo.same h hb2⟩
theorem rtext_any (w : World) (b : Nat) (er : Int) (l : List Int) (v : Value) (h : Oc.RdR w b er l v) :
    Calls Tryz.prog 54 #[.pointer (some ⟨b, 0, none⟩), .int .i64 1048576] w fun e w' => e = .returned (.string (Oc.strOf (txtF er l).2.1)) ∧ Oc.RdTo b w (txtF er l).1 (txtF er l).2.2 w' := by
  unfold txtF
  by_cases he : er = 0
  · subst he
    rw [if_pos rfl]
    exact text_at h
  · rw [if_neg he]
    exact rtext_bad w b er _ l v h he
/-! ### The reference's -/
/-- It stands at the rest l, with the mistake er. -/
def QS (b : Nat) (w : World) (er : Int) (D l : List Int) (w' : World) : Prop := ∃ m, QTo b w m er D w' ∧ D.drop m = l
theorem QS.trans {b : Nat} {w w1 w2 : World} {er er' : Int} {D l l' : List Int} (h : QS b w er D l w1) (k : QS b w1 er' D l' w2) : QS b w er' D l' w2 := by
  obtain ⟨m, h1, _⟩ := h
  obtain ⟨m', k1, k2⟩ := k
  exact ⟨m', QTo.trans h1.2 k1, k2⟩
set_option maxRecDepth 100000 in
theorem qgroups_bad {w : World} {b m : Nat} {er : Int} {D : List Int} (h : Qd w b m er D) (he : ¬ er = 0) (was : Int) :
    Calls Tryz.prog 59 #[.pointer (some ⟨b, 0, none⟩), .int .i64 was] w fun e w' => e = .returned (.int .u64 0) ∧ QTo b w m er D w' := by
  obtain ⟨c1, c2, f1⟩ := qd_cells h
  have HT : Hid (QTo b w m er D w) := QTo.refl h
  clear h
  go_enter Tryz.func59, Tryz.ntmps59
  go_wp2
  go_ret
  exact ⟨rfl, HT.out⟩
set_option maxRecDepth 100000 in
set_option maxHeartbeats 1000000 in
theorem qcount_bad {w : World} {b m : Nat} {er : Int} {D : List Int} (h : Qd w b m er D) (he : ¬ er = 0) (most : Int) :
    Calls Tryz.prog 28 #[.pointer (some ⟨b, 0, none⟩), .int .i64 most] w fun e w' => e = .returned (.int .i64 0) ∧ QTo b w m er D w' := by
  obtain ⟨c1, c2, f1⟩ := qd_cells h
  have HG := Lib.hid (qgroups_bad h he (m : Int))
  have HC : Hid (∀ W, QTo b w m er D W → W.cell? ⟨b, 2, none⟩ = some (.int .i64 er)) := fun W hW => (qd_cells hW.1).2.1
  clear h
  go_enter Tryz.func28, Tryz.ntmps28
  go_wp2_with (go_at_call 59; (with_reducible refine HG.out.mono ?_); rintro e w1 ⟨rfl, hq⟩; have HQ := Lib.hid hq; have d2 := HC.out _ hq; clear hq)
  go_ret
  exact ⟨rfl, HQ.out⟩
set_option maxRecDepth 100000 in
theorem qtext_bad {w : World} {b m : Nat} {er : Int} {D : List Int} (h : Qd w b m er D) (he : ¬ er = 0) :
    Calls Tryz.prog 29 #[.pointer (some ⟨b, 0, none⟩), .int .i64 1048576] w fun e w' => e = .returned (.string ByteArray.empty) ∧ QTo b w m er D w' := by
  obtain ⟨c1, c2, f1⟩ := qd_cells h
  have HC := Lib.hid (qcount_bad h he 1048576)
  have HY := Lib.hid (fun W (hW : Qd W b m er D) => qbytes_bad hW he 0 (m : Int))
  clear h
  go_enter Tryz.func29, Tryz.ntmps29
  go_wp2_with (first
    | (go_at_call 27; (with_reducible refine (HY.out w2 HQ2.out.st).mono ?_); rintro e w3 ⟨A3, q3, c3, rfl, hba3, hq3⟩
       have hcv := Oc.conv_any (Jo.oc_at hba3) (fun x hx => absurd hx List.not_mem_nil)
       have HQ3 := Lib.hid (QTo.trans HQ2.out.gr hq3)
       clear hba3 hq3)
    | (go_at_call 28; (with_reducible refine HC.out.mono ?_); rintro e w2 ⟨rfl, hq2⟩; have HQ2 := Lib.hid hq2; clear hq2))
  go_ret
  exact ⟨rfl, HQ3.out⟩
/-- Bytes(1, At): one byte, or none. -/
def oneB (er : Int) (l : List Int) : List Int := if er = 0 then l.take 1 else []
theorem qone_any {w : World} {b m : Nat} {er : Int} {D : List Int} (h : Qd w b m er D) :
    Calls Tryz.prog 27 #[.pointer (some ⟨b, 0, none⟩), .int .i64 1, .int .i64 (m : Int)] w fun e w' => ∃ A q c, e = .returned (.slice A q c) ∧ Fr.BAt w' (.slice A q c) (oneB er (D.drop m)) ∧ QS b w (byteF er (D.drop m)).1 D (byteF er (D.drop m)).2.2 w' := by
  obtain ⟨hb, hmD, hlD⟩ := qd_at h
  by_cases he : er = 0
  · subst he
    by_cases hm : m + 1 ≤ D.length
    · refine (qbytes_ok (k := 1) h hm (m : Int)).mono ?_
      rintro e w' ⟨A, q, c, h1, h2, h3⟩
      have hd : D.drop m = D[m] :: D.drop (m + 1) := List.drop_eq_getElem_cons (by omega)
      refine ⟨A, q, c, h1, by unfold oneB; rw [if_pos rfl]; exact h2, m + 1, ?_, ?_⟩
      · rw [hd]; exact h3
      · rw [hd]; rfl
    · have hd : D.drop m = [] := List.drop_eq_nil_of_le (by omega)
      refine (qbytes_end (k := 1) (was := m) h (by omega) (by decide) hmD).mono ?_
      rintro e w' ⟨A, q, c, h1, h2, h3⟩
      refine ⟨A, q, c, h1, ?_, m, ?_, ?_⟩
      · rw [hd]; exact h2
      · rw [hd]; exact h3
      · rw [hd]; rfl
  · refine (qbytes_bad h he 1 (m : Int)).mono ?_
    rintro e w' ⟨A, q, c, h1, h2, h3⟩
    refine ⟨A, q, c, h1, ?_, m, ?_, ?_⟩
    · unfold oneB; rw [if_neg he]; exact h2
    · unfold byteF; rw [if_neg he]; exact h3
    · unfold byteF; rw [if_neg he]
theorem qcnt_cnt (most : Int) (l : List Int) : ((qcnt most l).1, ((qcnt most l).2.1 : Int), (qcnt most l).2.2) = cntF most 0 l := by
  unfold qcnt cntF
  rw [if_pos rfl]
  by_cases h0 : (Oc.rg l).1 = 0
  · rw [if_pos h0, if_neg (fun h => h h0)]
    by_cases h1 : ((Oc.rg l).2.1 : Int) ≤ most
    · rw [if_pos h1, if_neg (fun h => h h1)]
    · rw [if_neg h1, if_pos h1]; rfl
  · rw [if_neg h0, if_pos h0]; rfl
theorem qcount_all {w : World} {b m : Nat} {er : Int} {D : List Int} (h : Qd w b m er D) (most : Int) (hm1 : most < 9223372036854775808) :
    Calls Tryz.prog 28 #[.pointer (some ⟨b, 0, none⟩), .int .i64 most] w fun e w' => e = .returned (.int .i64 (cntF most er (D.drop m)).2.1) ∧ QS b w (cntF most er (D.drop m)).1 D (cntF most er (D.drop m)).2.2 w' := by
  by_cases he : er = 0
  · subst he
    obtain ⟨hb, hmD, hlD⟩ := qd_at h
    have hq := qcnt_cnt most (D.drop m)
    have hdr := qcnt_drop (most := most) hb hmD
    refine (qcount_any h most hm1).mono ?_
    rintro e w' ⟨h1, h2⟩
    rw [← hq]
    exact ⟨h1, _, h2, hdr.2⟩
  · refine (qcount_bad h he most).mono ?_
    rintro e w' ⟨h1, h2⟩
    unfold cntF
    rw [if_neg he]
    exact ⟨h1, m, h2, rfl⟩
theorem qtext_all {w : World} {b m : Nat} {er : Int} {D : List Int} (h : Qd w b m er D) :
    Calls Tryz.prog 29 #[.pointer (some ⟨b, 0, none⟩), .int .i64 1048576] w fun e w' => e = .returned (.string (Oc.strOf (txtF er (D.drop m)).2.1)) ∧ QS b w (txtF er (D.drop m)).1 D (txtF er (D.drop m)).2.2 w' := by
  unfold txtF
  by_cases he : er = 0
  · subst he
    rw [if_pos rfl]
    refine (qtext_any h).mono ?_
    rintro e w' ⟨h1, m', h2, h3⟩
    exact ⟨h1, m', h2, h3⟩
  · rw [if_neg he]
    refine (qtext_bad h he).mono ?_
    rintro e w' ⟨h1, h2⟩
    exact ⟨h1, m, h2, rfl⟩
end Go.Proofs.YtganokcmcdkdgaaGreat.Pi

namespace Go.Proofs.YtganokcmcdkdgaaGreat.Pi
open Go.RowKit

/-- The reader b stands at l; whatever else lay in W0 is as it was. -/
structure GS (W0 : World) (b : Nat) (er : Int) (l : List Int) (W : World) : Prop where
  rd : ∃ v, Oc.RdR W b er l v
  gr : W0.grownBy W (some b)
theorem GS.step {W0 W W' : World} {b : Nat} {er er' : Int} {l l' : List Int} (S : GS W0 b er l W) (h : Oc.RdTo b W er' l' W') : GS W0 b er' l' W' := by
  obtain ⟨v, h1, h2⟩ := h
  exact ⟨⟨v, h1⟩, Oc.grownBy_trans S.gr h2⟩
theorem GS.kept {W0 W W' : World} {b : Nat} {er : Int} {l : List Int} (S : GS W0 b er l W) (h : Below W.heap.size W W') : GS W0 b er l W' := by
  obtain ⟨v, h1⟩ := S.rd
  exact ⟨⟨v, h1.below h⟩, Oc.grownBy_trans S.gr (Oc.grownBy_of_below _ h)⟩
theorem GS.al {W0 W : World} {b : Nat} {er : Int} {l : List Int} (S : GS W0 b er l W) (o : Obj) : GS W0 b er l (W.alloc o) := S.kept ((Below.refl _ _).alloc (Nat.le_refl _) _)
theorem GS.blk {W0 W : World} {b : Nat} {er : Int} {l : List Int} (S : GS W0 b er l W) {k : Nat} {o : Obj} (h : W0.heap[k]? = some o) (hk : k ≠ b) : W.heap[k]? = some o :=
  (S.gr.block k (Array.getElem?_eq_some_iff.1 h).1 (fun e => hk (by cases e; rfl))).trans h
theorem GS.comp {W0 W W' : World} {b : Nat} {er er' : Int} {l l' : List Int} (S : GS W0 b er l W) (k : GS W b er' l' W') : GS W0 b er' l' W' := ⟨k.rd, Oc.grownBy_trans S.gr k.gr⟩
theorem GS.base {W0 W : World} {b : Nat} {er : Int} {l : List Int} (S : GS W0 b er l W) : GS W b er l W := ⟨S.rd, Oc.grownBy_refl _ _⟩
theorem GS.set {W0 W W' : World} {b : Nat} {er : Int} {l : List Int} (S : GS W0 b er l W) {c : Nat} (hc : b < c) (hk : ∀ k, k ≠ c → W'.heap[k]? = W.heap[k]?) (h0 : W0.heap.size ≤ c) (hs : W.heap.size ≤ W'.heap.size) (ho : W'.os = W.os) (ht : W'.tape = W.tape) (hu : W'.output = W.output) : GS W0 b er l W' := by
  obtain ⟨v, h1⟩ := S.rd
  exact ⟨⟨v, h1.upto fun k hk1 => hk k (by omega)⟩, ⟨ho.trans S.gr.os, ht.trans S.gr.tape, hu.trans S.gr.output, Nat.le_trans S.gr.size hs, fun k hk1 hn => (hk k (by omega)).trans (S.gr.block k hk1 hn)⟩⟩
theorem GS.set1 {W0 W : World} {b : Nat} {er : Int} {l : List Int} (S : GS W0 b er l W) {c : Nat} (hc : b < c) (h0 : W0.heap.size ≤ c) (j : Nat) (x : Value) : GS W0 b er l (W.setCell ⟨c, j, none⟩ x) :=
  S.set hc (fun k hk => Below.heap_setCell _ _ _ _ hk) h0 (by simp [World.setCell]) rfl rfl rfl
theorem GS.fail {W0 W : World} {b : Nat} {er : Int} {l : List Int} (S : GS W0 b er l W) (x : Int) :
    Calls Tryz.prog 53 #[.pointer (some ⟨b, 0, none⟩), .int .i64 x] W fun e w' => e = .returned (.tuple #[]) ∧ GS W0 b (Oc.errB er x) l w' := by
  obtain ⟨v, h1⟩ := S.rd
  exact (Oc.rfail_any W b er x l v h1).mono fun e w' h2 => ⟨h2.1, S.step h2.2⟩
theorem GS.byte {W0 W : World} {b : Nat} {er e' : Int} {l l' : List Int} {x : Int} (S : GS W0 b er l W) (h : byteF er l = (e', x, l')) :
    Calls Tryz.prog 51 #[.pointer (some ⟨b, 0, none⟩)] W fun e w' => e = .returned (.int .u8 x) ∧ GS W0 b e' l' w' := by
  obtain ⟨v, h1⟩ := S.rd
  refine (rbyte_any W b er l v h1).mono ?_
  rw [h]
  exact fun e w' h2 => ⟨h2.1, S.step h2.2⟩
theorem GS.count {W0 W : World} {b : Nat} {er e' : Int} {l l' : List Int} {x : Int} (S : GS W0 b er l W) (most : Int) (hm0 : -9223372036854775808 ≤ most) (hm : most < 9223372036854775808) (h : cntF most er l = (e', x, l')) :
    Calls Tryz.prog 52 #[.pointer (some ⟨b, 0, none⟩), .int .i64 most] W fun e w' => e = .returned (.int .i64 x) ∧ GS W0 b e' l' w' := by
  obtain ⟨v, h1⟩ := S.rd
  refine (rcount_any W b er most l v h1 hm0 hm).mono ?_
  rw [h]
  exact fun e w' h2 => ⟨h2.1, S.step h2.2⟩
theorem byte_rng {er : Int} {l : List Int} (hb : Oc.bok l) : 0 ≤ (byteF er l).2.1 ∧ (byteF er l).2.1 < 256 := by
  unfold byteF
  split
  · cases l with
    | nil => exact ⟨by show (0 : Int) ≤ 0; omega, by show (0 : Int) < 256; omega⟩
    | cons x r => exact hb x (List.mem_cons_self ..)
  · exact ⟨by show (0 : Int) ≤ 0; omega, by show (0 : Int) < 256; omega⟩
theorem GS.text {W0 W : World} {b : Nat} {er e' : Int} {l l' x : List Int} (S : GS W0 b er l W) (h : txtF er l = (e', x, l')) :
    Calls Tryz.prog 54 #[.pointer (some ⟨b, 0, none⟩), .int .i64 1048576] W fun e w' => e = .returned (.string (Oc.strOf x)) ∧ GS W0 b e' l' w' := by
  obtain ⟨v, h1⟩ := S.rd
  refine (rtext_any W b er l v h1).mono ?_
  rw [h]
  exact fun e w' h2 => ⟨h2.1, S.step h2.2⟩
/-! ### What is read of a packet's bytes -/
/-- Kind, from, to, number, bytes; the mistake, the rest. -/
structure PkF where
  k : Int
  f : Int
  t : Int
  n : Int
  x : List Int
  er : Int
  r : List Int
def b1 (l : List Int) := byteF 0 l
def b2 (l : List Int) := byteF (b1 l).1 (b1 l).2.2
def b3 (l : List Int) := byteF (b2 l).1 (b2 l).2.2
def b4 (l : List Int) := cntF 1099511627776 (b3 l).1 (b3 l).2.2
def e4 (l : List Int) : Int := if kdB (b1 l).2.1 = true then (b4 l).1 else Oc.errB (b4 l).1 3
def b5 (l : List Int) : Int × List Int × List Int := if (b1 l).2.1 = 1 then txtF (e4 l) (b4 l).2.2 else (e4 l, [], (b4 l).2.2)
def pkF (l : List Int) : PkF := ⟨(b1 l).2.1, (b2 l).2.1, (b3 l).2.1, (b4 l).2.1, (b5 l).2.1, (b5 l).1, (b5 l).2.2⟩
/-- The mistake of a packet's body. -/
def bodyE (l : List Int) : Int := if Oc.doneE (pkF l).er (pkF l).r = 0 then endE (pkF l).f (pkF l).t else Oc.doneE (pkF l).er (pkF l).r
theorem byte_bok {er : Int} {l : List Int} (hb : Oc.bok l) : Oc.bok (byteF er l).2.2 := by
  unfold byteF
  split
  · cases l with
    | nil => exact fun x hx => absurd hx List.not_mem_nil
    | cons y r => exact fun x hx => hb x (List.mem_cons_of_mem _ hx)
  · exact hb
theorem cnt_bok {most er : Int} {l : List Int} (hb : Oc.bok l) : Oc.bok (cntF most er l).2.2 := by
  unfold cntF
  split
  · split
    · rename_i h
      split
      · have hi := Oc.rg_inv hb (rg_eq h)
        exact fun x hx => hb x (by rw [hi.2]; exact List.mem_append_right _ hx)
      · exact hb
    · exact hb
  · exact hb
theorem txt_bok {l : List Int} (hb : Oc.bok l) : Oc.bok (Sp.txt l).2.1 := by
  unfold Sp.txt
  split
  · exact fun x hx => absurd hx List.not_mem_nil
  · rename_i h
    split
    · exact fun x hx => absurd hx List.not_mem_nil
    · split
      · exact fun x hx => absurd hx List.not_mem_nil
      · have h0 : (Oc.rg l).1 = 0 := Classical.not_not.1 h
        have hi := Oc.rg_inv hb (rg_eq h0)
        exact fun x hx => hb x (by rw [hi.2]; exact List.mem_append_right _ (List.mem_of_mem_take hx))
theorem b5_bok {l : List Int} (hb : Oc.bok l) : Oc.bok (b5 l).2.1 := by
  unfold b5
  split
  · unfold txtF
    split
    · exact txt_bok (cnt_bok (byte_bok (byte_bok (byte_bok hb))))
    · exact fun x hx => absurd hx List.not_mem_nil
  · exact fun x hx => absurd hx List.not_mem_nil
end Go.Proofs.YtganokcmcdkdgaaGreat.Pi
