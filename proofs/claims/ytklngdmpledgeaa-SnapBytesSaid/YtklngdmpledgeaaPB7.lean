/-
  A snapshot's bytes, there and back, on lists. Conditions: none.
-/
import Derived.Test.YtklngdmpledgeaaPB6
import Derived.Test.YtklngdmpledgeaaORCnt
import Derived.Laws.IdiomStrings
import Derived.Lib.BufferRead
namespace Go.Proofs.Ytklngdmpledgeaa.Sp
open Go.RowKit Fr

def recB (l : List Int) : List Int := Oc.grp l.length ++ l
def flat (ls : List (List Int)) : List Int := (ls.map recB).flatten
def bodyS (ls : List (List Int)) : List Int := Oc.grp ls.length ++ flat ls
def encS (ls : List (List Int)) : List Int := frF (bodyS ls)
def tot (ls : List (List Int)) : Nat := (bodyS ls).length + 8
theorem encS_len (ls : List (List Int)) : (encS ls).length = tot ls := by unfold encS tot; rw [frF_len]
/-- What Size has added up ahead of record i. -/
def part (ls : List (List Int)) (i : Nat) : Nat := 8 + (Oc.grp ls.length).length + (flat (ls.take i)).length
theorem part_zero (ls : List (List Int)) : part ls 0 = 8 + (Oc.grp ls.length).length := by simp [part, flat]
theorem flat_snoc {ls : List (List Int)} {i : Nat} {l : List Int} (h : ls[i]? = some l) : flat (ls.take (i + 1)) = flat (ls.take i) ++ recB l := by
  have hi := (List.getElem?_eq_some_iff.1 h)
  obtain ⟨hi, e⟩ := hi
  unfold flat
  rw [List.take_succ_eq_append_getElem hi, e]
  simp
theorem part_succ {ls : List (List Int)} {i : Nat} {l : List Int} (h : ls[i]? = some l) : part ls (i + 1) = part ls i + ((Oc.grp l.length).length + l.length) := by
  unfold part
  rw [flat_snoc h, List.length_append]
  simp [recB]; omega
theorem part_all (ls : List (List Int)) : part ls ls.length = tot ls := by
  unfold part tot bodyS
  rw [List.take_length, List.length_append]; omega
theorem part_mono (ls : List (List Int)) {i : Nat} (_h : i ≤ ls.length) : part ls i ≤ tot ls := by
  rw [← part_all]
  unfold part
  have e : ls = ls.take i ++ ls.drop i := (List.take_append_drop i ls).symm
  have h3 : ∀ a b : List (List Int), (flat (a ++ b)).length = (flat a).length + (flat b).length := fun a b => by unfold flat; rw [List.map_append, List.flatten_append, List.length_append]
  have h2 : (flat ls).length = (flat (ls.take i)).length + (flat (ls.drop i)).length := by rw [← h3, ← e]
  rw [List.take_length]; omega
def fitsS (ls : List (List Int)) : Bool := decide (ls.length ≤ 10000 ∧ tot ls ≤ 1048576)
def sizeE (ls : List (List Int)) : Int := if fitsS ls then (tot ls : Int) else -1
theorem flat_bok {ls : List (List Int)} (h : ∀ l ∈ ls, bok l ∧ l.length ≤ 2000000) : bok (flat ls) := fun x hx => by
  obtain ⟨l, hl, hx2⟩ := List.mem_flatten.1 hx
  obtain ⟨m, hm, rfl⟩ := List.mem_map.1 hl
  exact bok_app (Oc.grp_bok (by have := (h m hm).2; omega)) (h m hm).1 x hx2
theorem body_bok {ls : List (List Int)} (h : ∀ l ∈ ls, bok l ∧ l.length ≤ 2000000) (hn : ls.length ≤ 2000000) : bok (bodyS ls) := bok_app (Oc.grp_bok (by omega)) (flat_bok h)
theorem enc_bok {ls : List (List Int)} (h : ∀ l ∈ ls, bok l ∧ l.length ≤ 2000000) (hn : ls.length ≤ 2000000) : bok (encS ls) := frF_bok (body_bok h hn)

/-! ### Back -/
/-- A text: the mistake, its bytes, what is left. -/
def txt (l : List Int) : Int × List Int × List Int :=
  if (Oc.rg l).1 ≠ 0 then ((Oc.rg l).1, [], l)
  else if ¬ ((Oc.rg l).2.1 : Int) ≤ 1048576 then (Oc.longE (Oc.rg l).2.1, [], l)
  else if (Oc.rg l).2.2.length < (Oc.rg l).2.1 then (12, [], l)
  else (0, (Oc.rg l).2.2.take (Oc.rg l).2.1, (Oc.rg l).2.2.drop (Oc.rg l).2.1)
/-- How many records: the mistake, the number, what is left. -/
def cntS (l : List Int) : Int × Nat × List Int :=
  if (Oc.rg l).1 ≠ 0 then ((Oc.rg l).1, 0, l)
  else if ¬ ((Oc.rg l).2.1 : Int) ≤ 10000 then (Oc.longE (Oc.rg l).2.1, 0, l)
  else (0, (Oc.rg l).2.1, (Oc.rg l).2.2)
/-- So many texts, up to the first mistake: the mistake, the texts, what is left. -/
def lstS : Nat → List Int → Int × List (List Int) × List Int
  | 0, l => (0, [], l)
  | n + 1, l => if (txt l).1 = 0 then ((lstS n (txt l).2.2).1, (txt l).2.1 :: (lstS n (txt l).2.2).2.1, (lstS n (txt l).2.2).2.2) else ((txt l).1, [[]], l)
def allS (B : List Int) : Int × List (List Int) × List Int := if (cntS B).1 = 0 then lstS (cntS B).2.1 (cntS B).2.2 else ((cntS B).1, [], B)
def decE (G : List Int) : Int := if opE G ≠ 0 then opE G else Oc.doneE (allS (opB G)).1 (allS (opB G)).2.2
def decL (G : List Int) : List (List Int) := if decE G = 0 then (allS (opB G)).2.1 else []
theorem txt_rec (l r : List Int) (hl : l.length ≤ 1048576) : txt (recB l ++ r) = (0, l, r) := by
  have h1 : Oc.rg (recB l ++ r) = (0, l.length, l ++ r) := by
    unfold recB; rw [List.append_assoc]; exact Oc.rg_grp _ _ (by omega)
  unfold txt
  rw [h1]
  have h2 : ¬ (¬ ((l.length : Int) ≤ 1048576)) := by omega
  have h3 : ¬ (l ++ r).length < l.length := by rw [List.length_append]; omega
  dsimp only
  rw [if_neg (fun h => h rfl), if_neg h2, if_neg h3, List.take_left' rfl, List.drop_left' rfl]
theorem cnt_grp (n : Nat) (r : List Int) (h : n ≤ 10000) : cntS (Oc.grp n ++ r) = (0, n, r) := by
  have h1 : Oc.rg (Oc.grp n ++ r) = (0, n, r) := Oc.rg_grp _ _ (by omega)
  unfold cntS
  rw [h1]
  have h2 : ¬ (¬ ((n : Int) ≤ 10000)) := by omega
  dsimp only
  rw [if_neg (fun h => h rfl), if_neg h2]
theorem lst_flat : ∀ (ls : List (List Int)) (r : List Int), (∀ l ∈ ls, l.length ≤ 1048576) → lstS ls.length (flat ls ++ r) = (0, ls, r)
  | [], r, _ => rfl
  | l :: ls, r, h => by
    have e : flat (l :: ls) ++ r = recB l ++ (flat ls ++ r) := by simp [flat]
    have e2 := txt_rec l (flat ls ++ r) (h l (by simp))
    rw [e, List.length_cons]
    unfold lstS
    rw [e2, if_pos rfl, lst_flat ls r (fun m hm => h m (by simp [hm]))]
theorem all_body (ls : List (List Int)) (hn : ls.length ≤ 10000) (h : ∀ l ∈ ls, l.length ≤ 1048576) : allS (bodyS ls) = (0, ls, []) := by
  have e : cntS (bodyS ls) = (0, ls.length, flat ls) := cnt_grp _ _ hn
  have e2 := lst_flat ls [] h
  rw [List.append_nil] at e2
  unfold allS
  rw [e, if_pos rfl]
  exact e2
theorem rec_le {ls : List (List Int)} {l : List Int} (h : l ∈ ls) : l.length ≤ tot ls := by
  obtain ⟨i, hi, e⟩ := List.mem_iff_getElem.1 h
  have h1 := part_succ (ls := ls) (i := i) (l := l) (by rw [List.getElem?_eq_getElem hi, e])
  have h2 := part_mono ls (i := i + 1) (by omega)
  omega
theorem dec_enc (ls : List (List Int)) (h : fitsS ls = true) : decE (encS ls) = 0 ∧ decL (encS ls) = ls := by
  obtain ⟨hn, ht⟩ := of_decide_eq_true h
  have hb : (bodyS ls).length ≤ 1048568 := by unfold tot at ht; omega
  have e := all_body ls hn (fun l hl => by have := rec_le hl; omega)
  have e1 : decE (encS ls) = 0 := by
    unfold decE encS
    rw [frF_opE hb, if_neg (fun h => h rfl), frF_opB hb, e]
    unfold Oc.doneE
    rw [if_pos rfl, if_pos rfl]
  refine ⟨e1, ?_⟩
  unfold decL
  rw [if_pos e1]
  unfold encS
  rw [frF_opB hb, e]
end Go.Proofs.Ytklngdmpledgeaa.Sp

namespace Go.Proofs.Ytklngdmpledgeaa.Oc
open Go.RowKit

theorem conv_any {w : World} {u : Value} {l : List Int} (h : BAt w u l) (hb : bok l) : (convert 32 9 u).run Try.prog w = .ok (.string (strOf l)) w := by
  obtain ⟨A, cap, rfl, _, hc⟩ := h
  have hl : (u8s l).length = l.length := by simp [u8s]
  cases A with
  | none =>
    cases l with
    | nil => exact Lib.run_convert_nil_bytes w 32 9 5 cap Try.underlying32 Try.underlying5 Try.underlying9
    | cons x r => obtain ⟨g, o, h1, _⟩ := hc (by simp); cases h1
  | some a =>
    have := run_convert_bytes_back (P := Try.prog) w 32 9 5 a cap (u8s l) Try.underlying32 Try.underlying5 Try.underlying9 (fun j hj => by
      rw [hl] at hj
      obtain ⟨g, o, h1, _, h3⟩ := hc (by omega)
      cases h1
      rw [show (Addr.mk g o none).add j = ⟨g, o + j, none⟩ by unfold Addr.add; split <;> simp_all, h3 j hj]
      have hx : l.getD j 0 = l[j] := by simp [List.getD, List.getElem?_eq_getElem hj]
      have := hb l[j] (List.getElem_mem hj)
      rw [hx]
      simp [u8s]
      omega)
    rw [hl] at this
    exact this
theorem BAt.drew {w : World} {u : Value} {l : List Int} (h : BAt w u l) : BAt w.drew u l := h.kept (Below.refl _ _).drew
theorem RdR.drew {w : World} {b : Nat} {er : Int} {l : List Int} {v : Value} (h : RdR w b er l v) : RdR w.drew b er l v := h.below (Below.refl _ _).drew
theorem bok_take {l : List Int} (h : bok l) (n : Nat) : bok (l.take n) := fun x hx => h x (List.mem_of_mem_take hx)

set_option maxRecDepth 100000 in
set_option maxHeartbeats 2000000 in
theorem text1_any (w : World) (b B D n : Nat) (most er1 er2 : Int) (l1 l2 bs : List Int) (hB : w.heap[B]? = some (boxO b)) (hBb : B ≠ b) (hD : w.heap[D]? = some (intO most)) (hDb : D ≠ b) (hbs : bok bs)
    (hc : Calls Try.prog 133 #[.pointer (some ⟨b, 0, none⟩), .int .i64 most] w.drew fun e w' => e = .returned (.int .i64 (n : Int)) ∧ RdTo b w.drew er1 l1 w')
    (hk : ∀ W v, RdR W b er1 l1 v → Calls Try.prog 137 #[.pointer (some ⟨b, 0, none⟩), .int .i64 (n : Int)] W fun e w' => ∃ u, e = .returned u ∧ BAt w' u bs ∧ RdTo b W er2 l2 w') :
    Calls Try.prog 136 #[.pointer (some ⟨B, 0, none⟩), .pointer (some ⟨D, 0, none⟩)] w fun e w' => e = .returned (.string (strOf bs)) ∧ RdTo b w er2 l2 w' := by
  obtain ⟨c1, _⟩ := block_cell hB
  obtain ⟨c2, _⟩ := block_cell hD
  have HC := Lib.hid hc
  have HK := Lib.hid hk
  have HDD := Lib.hid hD
  have HBB := Lib.hid hB
  have HBS := Lib.hid hbs
  clear hB hD hc hk hbs
  go_enter Try.func136, Try.ntmps136
  go_wp2_with fail
  go_region_with (first
      | (go_at_call 137; refine (HK.out w1 v1 HV.out).mono ?_; rintro e w2 ⟨u, rfl, hba, hrd⟩
         obtain ⟨A3, m3, c3, rfl⟩ : ∃ A m c, u = Value.slice A m c := (by obtain ⟨A, c, h, _⟩ := hba; exact ⟨A, _, c, h⟩)
         have hcv := conv_any hba HBS.out
         have HRD := Lib.hid (RdTo.trans HG1.out hrd)
         clear hba)
      | (go_at_call 133; refine HC.out.mono ?_; rintro e w1 ⟨rfl, v1, h2, hg1⟩
         have HV := Lib.hid h2
         have d1 := (block_cell (block_grown (w := w.drew) HBB.out hg1 hBb)).1
         have d2 := (block_cell (block_grown (w := w.drew) HDD.out hg1 hDb)).1
         have HG1 := Lib.hid (grownBy_trans (grownBy_drew w (some b)) hg1)
         clear h2 hg1))
  all_goals
    go_wp2
    go_ret
    exact ⟨rfl, HRD.out⟩

/-! ### Text -/
set_option maxRecDepth 100000 in
theorem rtext_nil (w : World) (most : Int) : Calls Try.prog 99 #[.pointer none, .int .i64 most] w fun e w' => e = .returned (.string ByteArray.empty) ∧ Below w.heap.size w w' := by
  have hmf := mkfn
  have HB : Hid (Below w.heap.size w ((w.alloc (.cells #[.pointer none] 143)).alloc (.cells #[.int .i64 most] 3))) := ((Below.refl _ _).alloc (Nat.le_refl _) _).alloc (by simp) _
  go_enter Try.func99, Try.ntmps99
  go_wp2_with (go_at_call 135; refine (att_nilStr _ _).mono ?_; rintro e w1 ⟨rfl, rfl⟩)
  go_ret
  exact ⟨rfl, HB.out⟩
set_option maxRecDepth 100000 in
/-- What Text leaves, out of what its closure does. -/
theorem rtext_of (w : World) (b : Nat) (most : Int) (x : Value) (P : World → Prop) (ha : Calls Try.prog 135 #[.pointer (some ⟨b, 0, none⟩), .func (.func 136) #[] #[.pointer (some ⟨w.heap.size, 0, none⟩), .pointer (some ⟨w.heap.size + 1, 0, none⟩)]] ((w.alloc (boxO b)).alloc (intO most)) fun e w' => e = .returned x ∧ P w') :
    Calls Try.prog 99 #[.pointer (some ⟨b, 0, none⟩), .int .i64 most] w fun e w' => e = .returned x ∧ P w' := by
  have hmf := mkfn
  have HA := Lib.hid ha
  clear ha
  unfold boxO intO at *
  go_enter Try.func99, Try.ntmps99
  go_wp2_with (go_at_call 135; refine HA.out.mono ?_; rintro e w1 ⟨rfl, h1⟩)
  go_ret
  exact ⟨rfl, h1⟩
theorem rtext_ok (w : World) (b n : Nat) (most : Int) (l r : List Int) (v : Value) (h : RdR w b 0 l v) (hg : rg l = (0, n, r)) (hn : (n : Int) ≤ most) (hm : most < 9223372036854775808) (hr : n ≤ r.length) :
    Calls Try.prog 99 #[.pointer (some ⟨b, 0, none⟩), .int .i64 most] w fun e w' => e = .returned (.string (strOf (r.take n))) ∧ RdTo b w 0 (r.drop n) w' := by
  obtain ⟨hb0, hb1, hb2⟩ := two_boxes w b most
  have hl := h.lt
  have hrb : bok r := fun x hx => h.2.2.1 x (by rw [(rg_inv h.2.2.1 hg).2]; exact List.mem_append_right _ hx)
  refine rtext_of w b most _ _ ((att_okStr _ b l (r.drop n) v _ (h.below hb2) 136 _ (enters_of Try.func136 (by kernel_rfl) rfl)
    (text1_any _ b w.heap.size (w.heap.size + 1) n most 0 0 r (r.drop n) (r.take n) hb0 (by omega) hb1 (by omega) (bok_take hrb n) (rcount_ok _ b n most l r v (h.below hb2).drew hg hn hm) (fun W v1 h1 => cut_ok W b 0 r v1 n h1 hr))).mono fun e w' h1 => ⟨h1.1, RdTo.trans (grownBy_of_below _ hb2) h1.2⟩)
theorem rtext_short (w : World) (b n : Nat) (most : Int) (l r : List Int) (v : Value) (h : RdR w b 0 l v) (hg : rg l = (0, n, r)) (hn : (n : Int) ≤ most) (hm : most < 9223372036854775808) (hr : r.length < n) :
    Calls Try.prog 99 #[.pointer (some ⟨b, 0, none⟩), .int .i64 most] w fun e w' => e = .returned (.string ByteArray.empty) ∧ RdTo b w 12 l w' := by
  obtain ⟨hb0, hb1, hb2⟩ := two_boxes w b most
  have hl := h.lt
  refine rtext_of w b most _ _ ((att_errStr _ b 12 l v (h.below hb2) (by decide) 136 _ (enters_of Try.func136 (by kernel_rfl) rfl)
    ((text1_any _ b w.heap.size (w.heap.size + 1) n most 0 12 r r [] hb0 (by omega) hb1 (by omega) (fun x hx => absurd hx (List.not_mem_nil)) (rcount_ok _ b n most l r v (h.below hb2).drew hg hn hm)
      (fun W v1 h1 => (cut_end W b r v1 n h1 hr).mono fun e w' h2 => ⟨_, h2.1, ⟨none, 0, rfl, Nat.le_refl _, fun h => by simp at h⟩, h2.2⟩)).mono fun e w' h1 => ⟨_, _, h1.1, h1.2⟩)).mono fun e w' h1 => ⟨h1.1, RdTo.trans (grownBy_of_below _ hb2) h1.2⟩)
theorem rtext_err (w : World) (b : Nat) (most er : Int) (l : List Int) (v : Value) (h : RdR w b 0 l v) (he : ¬ er = 0)
    (hc : ∀ W, RdR W b 0 l v → Calls Try.prog 133 #[.pointer (some ⟨b, 0, none⟩), .int .i64 most] W fun e w' => e = .returned (.int .i64 0) ∧ RdTo b W er l w') :
    Calls Try.prog 99 #[.pointer (some ⟨b, 0, none⟩), .int .i64 most] w fun e w' => e = .returned (.string ByteArray.empty) ∧ RdTo b w er l w' := by
  obtain ⟨hb0, hb1, hb2⟩ := two_boxes w b most
  have hl := h.lt
  refine rtext_of w b most _ _ ((att_errStr _ b er l v (h.below hb2) he 136 _ (enters_of Try.func136 (by kernel_rfl) rfl)
    ((text1_any _ b w.heap.size (w.heap.size + 1) 0 most er er l l [] hb0 (by omega) hb1 (by omega) (fun x hx => absurd hx (List.not_mem_nil)) (hc _ (h.below hb2).drew)
      (fun W v1 h1 => cut_ok W b er l v1 0 h1 (Nat.zero_le _))).mono fun e w' h1 => ⟨_, _, h1.1, h1.2⟩)).mono fun e w' h1 => ⟨h1.1, RdTo.trans (grownBy_of_below _ hb2) h1.2⟩)
end Go.Proofs.Ytklngdmpledgeaa.Oc
