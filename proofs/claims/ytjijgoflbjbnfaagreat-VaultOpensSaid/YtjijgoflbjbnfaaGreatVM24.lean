/-
  Slices of slices of bytes. Conditions: none.
-/
import Derived.Test.YtjijgoflbjbnfaaGreatVM8
import Derived.Laws.IdiomStrings
import Derived.Lib.BufferRead
import Derived.Lib.ConvBytes
namespace Go.Proofs.YtjijgoflbjbnfaaGreat.Sp
open Go.RowKit Fr

/-- A slice of slices that hold these bytes. -/
def RowsA (w : World) (v : Value) (bs : List (List Int)) : Prop := ∃ A cap, v = .slice A bs.length cap ∧ (0 < bs.length → ∃ g o, A = some ⟨g, o, none⟩ ∧ g < w.heap.size ∧ ∀ (i : Nat) (b : List Int), bs[i]? = some b → ∃ u, w.cell? ⟨g, o + i, none⟩ = some u ∧ BAt w u b)
theorem RowsA.below {w w' : World} {v : Value} {bs : List (List Int)} (h : RowsA w v bs) (hb : Below w.heap.size w w') : RowsA w' v bs := by
  obtain ⟨A, cap, e, h1⟩ := h
  refine ⟨A, cap, e, fun hp => ?_⟩
  obtain ⟨g, o, e2, hg, h2⟩ := h1 hp
  refine ⟨g, o, e2, Nat.lt_of_lt_of_le hg hb.size, fun i b hi => ?_⟩
  obtain ⟨u, h3, h4⟩ := h2 i b hi
  exact ⟨u, (hb.cell (p := ⟨g, o + i, none⟩) hg).trans h3, h4.kept hb⟩
theorem rows_len {w : World} {A : Option Addr} {n c : Nat} {ls : List (List Int)} (h : RowsA w (.slice A n c) ls) : n = ls.length := by
  obtain ⟨A', cap, e, _⟩ := h
  cases e; rfl
/-- Record i of the slice. -/
theorem rows_at {w : World} {A : Option Addr} {n c i : Nat} {ls : List (List Int)} (h : RowsA w (.slice A n c) ls) (hi : i < n) : ∃ (g o : Nat) (Au : Option Addr) (q cu : Nat) (l : List Int), A = some ⟨g, o, none⟩ ∧ ls[i]? = some l ∧ q = l.length ∧ w.cell? ⟨g, o + i, none⟩ = some (.slice Au q cu) ∧ BAt w (.slice Au q cu) l := by
  have hl := rows_len h
  obtain ⟨A', cap, e, h1⟩ := h
  cases e
  obtain ⟨g, o, e2, hg, h2⟩ := h1 (by omega)
  have h3 : ls[i]? = some ls[i] := List.getElem?_eq_getElem (by omega)
  obtain ⟨u, h4, h5⟩ := h2 i _ h3
  obtain ⟨Au, cu, e5, h6⟩ := id h5
  subst e5
  exact ⟨g, o, Au, _, cu, _, e2, h3, rfl, h4, h5⟩
theorem RowsA.nil (w : World) (c : Nat) (A : Option Addr) : RowsA w (.slice A 0 c) [] := ⟨A, c, rfl, fun h => absurd h (Nat.lt_irrefl 0)⟩
/-- The same, in blocks from N on. -/
def RowsF (N : Nat) (w : World) (v : Value) (bs : List (List Int)) : Prop := ∃ A cap, v = .slice A bs.length cap ∧ (0 < bs.length → ∃ g o, A = some ⟨g, o, none⟩ ∧ N ≤ g ∧ g < w.heap.size ∧ ∀ (i : Nat) (b : List Int), bs[i]? = some b → ∃ u, w.cell? ⟨g, o + i, none⟩ = some u ∧ BAt w u b ∧ BK (fun k => N ≤ k) u b)
theorem RowsF.toA {N : Nat} {w : World} {v : Value} {bs : List (List Int)} (h : RowsF N w v bs) : RowsA w v bs := by
  obtain ⟨A, cap, e, h1⟩ := h
  refine ⟨A, cap, e, fun hp => ?_⟩
  obtain ⟨g, o, e2, _, hg, h2⟩ := h1 hp
  refine ⟨g, o, e2, hg, fun i b hi => ?_⟩
  obtain ⟨u, h3, h4, _⟩ := h2 i b hi
  exact ⟨u, h3, h4⟩
theorem RowsF.from {M N : Nat} {w : World} {v : Value} {bs : List (List Int)} (h : RowsF N w v bs) (hm : M ≤ N) : RowsF M w v bs := by
  obtain ⟨A, cap, e, h1⟩ := h
  refine ⟨A, cap, e, fun hp => ?_⟩
  obtain ⟨g, o, e2, hN, hg, h2⟩ := h1 hp
  refine ⟨g, o, e2, Nat.le_trans hm hN, hg, fun i b hi => ?_⟩
  obtain ⟨u, h3, h4, h5⟩ := h2 i b hi
  exact ⟨u, h3, h4, fun hp a n c ha => Nat.le_trans hm (h5 hp a n c ha)⟩
theorem RowsF.nil (N : Nat) (w : World) (c : Nat) (A : Option Addr) : RowsF N w (.slice A 0 c) [] := ⟨A, c, rfl, fun h => absurd h (Nat.lt_irrefl 0)⟩
theorem bat_kept {w w' : World} {v : Value} {l : List Int} (h : BAt w v l) (hk : ∀ (_hp : 0 < l.length) a n c, v = .slice (some a) n c → w'.heap[a.block]? = w.heap[a.block]?) : BAt w' v l := by
  obtain ⟨A, cap, e1, e2, e3⟩ := h
  refine ⟨A, cap, e1, e2, fun hp => ?_⟩
  obtain ⟨g, o, e4, e5, e6⟩ := e3 hp
  have h1 := hk hp ⟨g, o, none⟩ _ _ (by rw [e1, e4])
  refine ⟨g, o, e4, ?_, fun i hi => ?_⟩
  · rcases Nat.lt_or_ge g w'.heap.size with h2 | h2
    · exact h2
    · rw [Array.getElem?_eq_none h2, Array.getElem?_eq_getElem e5] at h1; cases h1
  · have := e6 i hi
    simp only [World.cell?] at this ⊢
    rw [h1]; exact this
theorem bat_lt {w : World} {v : Value} {l : List Int} (h : BAt w v l) (hp : 0 < l.length) {a : Addr} {n c : Nat} (e : v = .slice (some a) n c) : a.block < w.heap.size := by
  obtain ⟨A, cap, e1, _, e3⟩ := h
  obtain ⟨g, o, e4, e5, _⟩ := e3 hp
  rw [e1, e4] at e
  cases e; exact e5
theorem RowsF.kept {N : Nat} {w w' : World} {v : Value} {bs : List (List Int)} (h : RowsF N w v bs) (hk : ∀ k, N ≤ k → k < w.heap.size → w'.heap[k]? = w.heap[k]?) (hs : w.heap.size ≤ w'.heap.size) : RowsF N w' v bs := by
  obtain ⟨A, cap, e, h1⟩ := h
  refine ⟨A, cap, e, fun hp => ?_⟩
  obtain ⟨g, o, e2, hN, hg, h2⟩ := h1 hp
  refine ⟨g, o, e2, hN, Nat.lt_of_lt_of_le hg hs, fun i b hi => ?_⟩
  obtain ⟨u, h3, h4, h5⟩ := h2 i b hi
  refine ⟨u, ?_, bat_kept h4 (fun hp a n c ha => hk _ (h5 hp a n c ha) (bat_lt h4 hp ha)), h5⟩
  have h6 := hk g hN hg
  simp only [World.cell?] at h3 ⊢
  rw [h6]; exact h3
end Go.Proofs.YtjijgoflbjbnfaaGreat.Sp

namespace Go.Proofs.YtjijgoflbjbnfaaGreat.Sp
open Go.RowKit Fr

def recB (l : List Int) : List Int := Oc.grp l.length ++ l
def flat (ls : List (List Int)) : List Int := (ls.map recB).flatten
def bodyS (ls : List (List Int)) : List Int := Oc.grp ls.length ++ flat ls
def encS (ls : List (List Int)) : List Int := frF (bodyS ls)
def tot (ls : List (List Int)) : Nat := (bodyS ls).length + 8
theorem encS_len (ls : List (List Int)) : (encS ls).length = tot ls := by unfold encS tot; rw [frF_len]
/-- What Size has added up ahead of record i. -/
def part (ls : List (List Int)) (i : Nat) : Nat := 8 + (Oc.grp ls.length).length + (flat (ls.take i)).length
theorem part_zero (ls : List (List Int)) : part ls 0 = 8 + (Oc.grp ls.length).length := by simp [part, flat]
theorem flat_snoc {ls : List (List Int)} {i : Nat} {l : List Int} (h : ls[i]? = some l) : flat (ls.take (i + 1)) = flat (ls.take i) ++ recB l := by
  have hi := (List.getElem?_eq_some_iff.1 h)
  obtain ⟨hi, e⟩ := hi
  unfold flat
  rw [List.take_succ_eq_append_getElem hi, e]
  simp
theorem part_succ {ls : List (List Int)} {i : Nat} {l : List Int} (h : ls[i]? = some l) : part ls (i + 1) = part ls i + ((Oc.grp l.length).length + l.length) := by
  unfold part
  rw [flat_snoc h, List.length_append]
  simp [recB]; omega
theorem part_all (ls : List (List Int)) : part ls ls.length = tot ls := by
  unfold part tot bodyS
  rw [List.take_length, List.length_append]; omega
theorem part_mono (ls : List (List Int)) {i : Nat} (_h : i ≤ ls.length) : part ls i ≤ tot ls := by
  rw [← part_all]
  unfold part
  have e : ls = ls.take i ++ ls.drop i := (List.take_append_drop i ls).symm
  have h3 : ∀ a b : List (List Int), (flat (a ++ b)).length = (flat a).length + (flat b).length := fun a b => by unfold flat; rw [List.map_append, List.flatten_append, List.length_append]
  have h2 : (flat ls).length = (flat (ls.take i)).length + (flat (ls.drop i)).length := by rw [← h3, ← e]
  rw [List.take_length]; omega
def fitsS (ls : List (List Int)) : Bool := decide (ls.length ≤ 10000 ∧ tot ls ≤ 1048576)
def sizeE (ls : List (List Int)) : Int := if fitsS ls then (tot ls : Int) else -1
theorem flat_bok {ls : List (List Int)} (h : ∀ l ∈ ls, bok l ∧ l.length ≤ 2000000) : bok (flat ls) := fun x hx => by
  obtain ⟨l, hl, hx2⟩ := List.mem_flatten.1 hx
  obtain ⟨m, hm, rfl⟩ := List.mem_map.1 hl
  exact bok_app (Oc.grp_bok (by have := (h m hm).2; omega)) (h m hm).1 x hx2
theorem body_bok {ls : List (List Int)} (h : ∀ l ∈ ls, bok l ∧ l.length ≤ 2000000) (hn : ls.length ≤ 2000000) : bok (bodyS ls) := bok_app (Oc.grp_bok (by omega)) (flat_bok h)
theorem enc_bok {ls : List (List Int)} (h : ∀ l ∈ ls, bok l ∧ l.length ≤ 2000000) (hn : ls.length ≤ 2000000) : bok (encS ls) := frF_bok (body_bok h hn)

/-! ### Back -/
/-- A text: the mistake, its bytes, what is left. -/
def txt (l : List Int) : Int × List Int × List Int :=
  if (Oc.rg l).1 ≠ 0 then ((Oc.rg l).1, [], l)
  else if ¬ ((Oc.rg l).2.1 : Int) ≤ 1048576 then (Oc.longE (Oc.rg l).2.1, [], l)
  else if (Oc.rg l).2.2.length < (Oc.rg l).2.1 then (12, [], l)
  else (0, (Oc.rg l).2.2.take (Oc.rg l).2.1, (Oc.rg l).2.2.drop (Oc.rg l).2.1)
/-- How many records: the mistake, the number, what is left. -/
def cntS (l : List Int) : Int × Nat × List Int :=
  if (Oc.rg l).1 ≠ 0 then ((Oc.rg l).1, 0, l)
  else if ¬ ((Oc.rg l).2.1 : Int) ≤ 10000 then (Oc.longE (Oc.rg l).2.1, 0, l)
  else (0, (Oc.rg l).2.1, (Oc.rg l).2.2)
/-- So many texts, up to the first mistake: the mistake, the texts, what is left. -/
def lstS : Nat → List Int → Int × List (List Int) × List Int
  | 0, l => (0, [], l)
  | n + 1, l => if (txt l).1 = 0 then ((lstS n (txt l).2.2).1, (txt l).2.1 :: (lstS n (txt l).2.2).2.1, (lstS n (txt l).2.2).2.2) else ((txt l).1, [[]], l)
def allS (B : List Int) : Int × List (List Int) × List Int := if (cntS B).1 = 0 then lstS (cntS B).2.1 (cntS B).2.2 else ((cntS B).1, [], B)
def decE (G : List Int) : Int := if opE G ≠ 0 then opE G else Oc.doneE (allS (opB G)).1 (allS (opB G)).2.2
def decL (G : List Int) : List (List Int) := if decE G = 0 then (allS (opB G)).2.1 else []
theorem txt_rec (l r : List Int) (hl : l.length ≤ 1048576) : txt (recB l ++ r) = (0, l, r) := by
  have h1 : Oc.rg (recB l ++ r) = (0, l.length, l ++ r) := by
    unfold recB; rw [List.append_assoc]; exact Oc.rg_grp _ _ (by omega)
  unfold txt
  rw [h1]
  have h2 : ¬ (¬ ((l.length : Int) ≤ 1048576)) := by omega
  have h3 : ¬ (l ++ r).length < l.length := by rw [List.length_append]; omega
  dsimp only
  rw [if_neg (fun h => h rfl), if_neg h2, if_neg h3, List.take_left' rfl, List.drop_left' rfl]
theorem cnt_grp (n : Nat) (r : List Int) (h : n ≤ 10000) : cntS (Oc.grp n ++ r) = (0, n, r) := by
  have h1 : Oc.rg (Oc.grp n ++ r) = (0, n, r) := Oc.rg_grp _ _ (by omega)
  unfold cntS
  rw [h1]
  have h2 : ¬ (¬ ((n : Int) ≤ 10000)) := by omega
  dsimp only
  rw [if_neg (fun h => h rfl), if_neg h2]
theorem lst_flat : ∀ (ls : List (List Int)) (r : List Int), (∀ l ∈ ls, l.length ≤ 1048576) → lstS ls.length (flat ls ++ r) = (0, ls, r)
  | [], r, _ => rfl
  | l :: ls, r, h => by
    have e : flat (l :: ls) ++ r = recB l ++ (flat ls ++ r) := by simp [flat]
    have e2 := txt_rec l (flat ls ++ r) (h l (by simp))
    rw [e, List.length_cons]
    unfold lstS
    rw [e2, if_pos rfl, lst_flat ls r (fun m hm => h m (by simp [hm]))]
theorem all_body (ls : List (List Int)) (hn : ls.length ≤ 10000) (h : ∀ l ∈ ls, l.length ≤ 1048576) : allS (bodyS ls) = (0, ls, []) := by
  have e : cntS (bodyS ls) = (0, ls.length, flat ls) := cnt_grp _ _ hn
  have e2 := lst_flat ls [] h
  rw [List.append_nil] at e2
  unfold allS
  rw [e, if_pos rfl]
  exact e2
theorem rec_le {ls : List (List Int)} {l : List Int} (h : l ∈ ls) : l.length ≤ tot ls := by
  obtain ⟨i, hi, e⟩ := List.mem_iff_getElem.1 h
  have h1 := part_succ (ls := ls) (i := i) (l := l) (by rw [List.getElem?_eq_getElem hi, e])
  have h2 := part_mono ls (i := i + 1) (by omega)
  omega
theorem dec_enc (ls : List (List Int)) (h : fitsS ls = true) : decE (encS ls) = 0 ∧ decL (encS ls) = ls := by
  obtain ⟨hn, ht⟩ := of_decide_eq_true h
  have hb : (bodyS ls).length ≤ 1048568 := by unfold tot at ht; omega
  have e := all_body ls hn (fun l hl => by have := rec_le hl; omega)
  have e1 : decE (encS ls) = 0 := by
    unfold decE encS
    rw [frF_opE hb, if_neg (fun h => h rfl), frF_opB hb, e]
    unfold Oc.doneE
    rw [if_pos rfl, if_pos rfl]
  refine ⟨e1, ?_⟩
  unfold decL
  rw [if_pos e1]
  unfold encS
  rw [frF_opB hb, e]
end Go.Proofs.YtjijgoflbjbnfaaGreat.Sp

namespace Go.Proofs.YtjijgoflbjbnfaaGreat.Oc
open Go.RowKit

theorem conv_any {w : World} {u : Value} {l : List Int} (h : BAt w u l) (hb : bok l) : (convert 32 9 u).run Tryz.prog w = .ok (.string (strOf l)) w := by
  obtain ⟨A, cap, rfl, _, hc⟩ := h
  have hl : (u8s l).length = l.length := by simp [u8s]
  cases A with
  | none =>
    cases l with
    | nil => exact Lib.run_convert_nil_bytes w 32 9 5 cap Tryz.underlying32 Tryz.underlying5 Tryz.underlying9
    | cons x r => obtain ⟨g, o, h1, _⟩ := hc (by simp); cases h1
  | some a =>
    have := run_convert_bytes_back (P := Tryz.prog) w 32 9 5 a cap (u8s l) Tryz.underlying32 Tryz.underlying5 Tryz.underlying9 (fun j hj => by
      rw [hl] at hj
      obtain ⟨g, o, h1, _, h3⟩ := hc (by omega)
      cases h1
      rw [show (Addr.mk g o none).add j = ⟨g, o + j, none⟩ by unfold Addr.add; split <;> simp_all, h3 j hj]
      have hx : l.getD j 0 = l[j] := by simp [List.getD, List.getElem?_eq_getElem hj]
      have := hb l[j] (List.getElem_mem hj)
      rw [hx]
      simp [u8s]
      omega)
    rw [hl] at this
    exact this
theorem BAt.drew {w : World} {u : Value} {l : List Int} (h : BAt w u l) : BAt w.drew u l := h.kept (Below.refl _ _).drew
theorem RdR.drew {w : World} {b : Nat} {er : Int} {l : List Int} {v : Value} (h : RdR w b er l v) : RdR w.drew b er l v := h.below (Below.refl _ _).drew
theorem bok_take {l : List Int} (h : bok l) (n : Nat) : bok (l.take n) := fun x hx => h x (List.mem_of_mem_take hx)

set_option maxRecDepth 100000 in
set_option maxHeartbeats 2000000 in
theorem text1_any (w : World) (b B D n : Nat) (most er1 er2 : Int) (l1 l2 bs : List Int) (hB : w.heap[B]? = some (boxO b)) (hBb : B ≠ b) (hD : w.heap[D]? = some (intO most)) (hDb : D ≠ b) (hbs : bok bs)
    (hc : Calls Tryz.prog 113 #[.pointer (some ⟨b, 0, none⟩), .int .i64 most] w.drew fun e w' => e = .returned (.int .i64 (n : Int)) ∧ RdTo b w.drew er1 l1 w')
    (hk : ∀ W v, RdR W b er1 l1 v → Calls Tryz.prog 149 #[.pointer (some ⟨b, 0, none⟩), .int .i64 (n : Int)] W fun e w' => ∃ u, e = .returned u ∧ BAt w' u bs ∧ RdTo b W er2 l2 w') :
    Calls Tryz.prog 148 #[.pointer (some ⟨B, 0, none⟩), .pointer (some ⟨D, 0, none⟩)] w fun e w' => e = .returned (.string (strOf bs)) ∧ RdTo b w er2 l2 w' := by
  obtain ⟨c1, _⟩ := block_cell hB
  obtain ⟨c2, _⟩ := block_cell hD
  have HC := Lib.hid hc
  have HK := Lib.hid hk
  have HDD := Lib.hid hD
  have HBB := Lib.hid hB
  have HBS := Lib.hid hbs
  clear hB hD hc hk hbs
  go_enter Tryz.func148, Tryz.ntmps148
  go_wp2_with fail
  go_region_with (first
      | (go_at_call 149; refine (HK.out w1 v1 HV.out).mono ?_; rintro e w2 ⟨u, rfl, hba, hrd⟩
         obtain ⟨A3, m3, c3, rfl⟩ : ∃ A m c, u = Value.slice A m c := (by obtain ⟨A, c, h, _⟩ := hba; exact ⟨A, _, c, h⟩)
         have hcv := conv_any hba HBS.out
         have HRD := Lib.hid (RdTo.trans HG1.out hrd)
         clear hba)
      | (go_at_call 113; refine HC.out.mono ?_; rintro e w1 ⟨rfl, v1, h2, hg1⟩
         have HV := Lib.hid h2
         have d1 := (block_cell (block_grown (w := w.drew) HBB.out hg1 hBb)).1
         have d2 := (block_cell (block_grown (w := w.drew) HDD.out hg1 hDb)).1
         have HG1 := Lib.hid (grownBy_trans (grownBy_drew w (some b)) hg1)
         clear h2 hg1))
  all_goals
    go_wp2
    go_ret
    exact ⟨rfl, HRD.out⟩

/-! ### Text -/
set_option maxRecDepth 100000 in
theorem rtext_nil (w : World) (most : Int) : Calls Tryz.prog 120 #[.pointer none, .int .i64 most] w fun e w' => e = .returned (.string ByteArray.empty) ∧ Below w.heap.size w w' := by
  have hmf := mkfn
  have HB : Hid (Below w.heap.size w ((w.alloc (.cells #[.pointer none] 169)).alloc (.cells #[.int .i64 most] 3))) := ((Below.refl _ _).alloc (Nat.le_refl _) _).alloc (by simp) _
  go_enter Tryz.func120, Tryz.ntmps120
  go_wp2_with (go_at_call 147; refine (att_nilStr _ _).mono ?_; rintro e w1 ⟨rfl, rfl⟩)
  go_ret
  exact ⟨rfl, HB.out⟩
set_option maxRecDepth 100000 in
/-- What Text leaves, out of what its closure does. -/
theorem rtext_of (w : World) (b : Nat) (most : Int) (x : Value) (P : World → Prop) (ha : Calls Tryz.prog 147 #[.pointer (some ⟨b, 0, none⟩), .func (.func 148) #[] #[.pointer (some ⟨w.heap.size, 0, none⟩), .pointer (some ⟨w.heap.size + 1, 0, none⟩)]] ((w.alloc (boxO b)).alloc (intO most)) fun e w' => e = .returned x ∧ P w') :
    Calls Tryz.prog 120 #[.pointer (some ⟨b, 0, none⟩), .int .i64 most] w fun e w' => e = .returned x ∧ P w' := by
  have hmf := mkfn
  have HA := Lib.hid ha
  clear ha
  unfold boxO intO at *
  go_enter Tryz.func120, Tryz.ntmps120
  go_wp2_with (go_at_call 147; refine HA.out.mono ?_; rintro e w1 ⟨rfl, h1⟩)
  go_ret
  exact ⟨rfl, h1⟩
theorem rtext_ok (w : World) (b n : Nat) (most : Int) (l r : List Int) (v : Value) (h : RdR w b 0 l v) (hg : rg l = (0, n, r)) (hn : (n : Int) ≤ most) (hm : most < 9223372036854775808) (hr : n ≤ r.length) :
    Calls Tryz.prog 120 #[.pointer (some ⟨b, 0, none⟩), .int .i64 most] w fun e w' => e = .returned (.string (strOf (r.take n))) ∧ RdTo b w 0 (r.drop n) w' := by
  obtain ⟨hb0, hb1, hb2⟩ := two_boxes w b most
  have hl := h.lt
  have hrb : bok r := fun x hx => h.2.2.1 x (by rw [(rg_inv h.2.2.1 hg).2]; exact List.mem_append_right _ hx)
  refine rtext_of w b most _ _ ((att_okStr _ b l (r.drop n) v _ (h.below hb2) 148 _ (enters_of Tryz.func148 (by kernel_rfl) rfl)
    (text1_any _ b w.heap.size (w.heap.size + 1) n most 0 0 r (r.drop n) (r.take n) hb0 (by omega) hb1 (by omega) (bok_take hrb n) (rcount_ok _ b n most l r v (h.below hb2).drew hg hn hm) (fun W v1 h1 => cut_ok W b 0 r v1 n h1 hr))).mono fun e w' h1 => ⟨h1.1, RdTo.trans (grownBy_of_below _ hb2) h1.2⟩)
theorem rtext_short (w : World) (b n : Nat) (most : Int) (l r : List Int) (v : Value) (h : RdR w b 0 l v) (hg : rg l = (0, n, r)) (hn : (n : Int) ≤ most) (hm : most < 9223372036854775808) (hr : r.length < n) :
    Calls Tryz.prog 120 #[.pointer (some ⟨b, 0, none⟩), .int .i64 most] w fun e w' => e = .returned (.string ByteArray.empty) ∧ RdTo b w 12 l w' := by
  obtain ⟨hb0, hb1, hb2⟩ := two_boxes w b most
  have hl := h.lt
  refine rtext_of w b most _ _ ((att_errStr _ b 12 l v (h.below hb2) (by decide) 148 _ (enters_of Tryz.func148 (by kernel_rfl) rfl)
    ((text1_any _ b w.heap.size (w.heap.size + 1) n most 0 12 r r [] hb0 (by omega) hb1 (by omega) (fun x hx => absurd hx (List.not_mem_nil)) (rcount_ok _ b n most l r v (h.below hb2).drew hg hn hm)
      (fun W v1 h1 => (cut_end W b r v1 n h1 hr).mono fun e w' h2 => ⟨_, h2.1, ⟨none, 0, rfl, Nat.le_refl _, fun h => by simp at h⟩, h2.2⟩)).mono fun e w' h1 => ⟨_, _, h1.1, h1.2⟩)).mono fun e w' h1 => ⟨h1.1, RdTo.trans (grownBy_of_below _ hb2) h1.2⟩)
theorem rtext_err (w : World) (b : Nat) (most er : Int) (l : List Int) (v : Value) (h : RdR w b 0 l v) (he : ¬ er = 0)
    (hc : ∀ W, RdR W b 0 l v → Calls Tryz.prog 113 #[.pointer (some ⟨b, 0, none⟩), .int .i64 most] W fun e w' => e = .returned (.int .i64 0) ∧ RdTo b W er l w') :
    Calls Tryz.prog 120 #[.pointer (some ⟨b, 0, none⟩), .int .i64 most] w fun e w' => e = .returned (.string ByteArray.empty) ∧ RdTo b w er l w' := by
  obtain ⟨hb0, hb1, hb2⟩ := two_boxes w b most
  have hl := h.lt
  refine rtext_of w b most _ _ ((att_errStr _ b er l v (h.below hb2) he 148 _ (enters_of Tryz.func148 (by kernel_rfl) rfl)
    ((text1_any _ b w.heap.size (w.heap.size + 1) 0 most er er l l [] hb0 (by omega) hb1 (by omega) (fun x hx => absurd hx (List.not_mem_nil)) (hc _ (h.below hb2).drew)
      (fun W v1 h1 => cut_ok W b er l v1 0 h1 (Nat.zero_le _))).mono fun e w' h1 => ⟨_, _, h1.1, h1.2⟩)).mono fun e w' h1 => ⟨h1.1, RdTo.trans (grownBy_of_below _ hb2) h1.2⟩)
end Go.Proofs.YtjijgoflbjbnfaaGreat.Oc

namespace Go.Proofs.YtjijgoflbjbnfaaGreat.Sp
open Go.RowKit Fr
attribute [local go_sem] Oper.semAt_some

/-- Count at most ten thousand. -/
theorem count_at {w : World} {b : Nat} {l : List Int} {v : Value} (h : Oc.RdR w b 0 l v) :
    Calls Tryz.prog 113 #[.pointer (some ⟨b, 0, none⟩), .int .i64 10000] w (fun e w' => e = .returned (.int .i64 ((cntS l).2.1 : Int)) ∧ Oc.RdTo b w (cntS l).1 (cntS l).2.2 w') := by
  by_cases hg : (Oc.rg l).1 = 0
  · have e1 : Oc.rg l = (0, (Oc.rg l).2.1, (Oc.rg l).2.2) := by rw [← hg]
    by_cases hn : ((Oc.rg l).2.1 : Int) ≤ 10000
    · have e2 : cntS l = (0, (Oc.rg l).2.1, (Oc.rg l).2.2) := by unfold cntS; rw [if_neg (fun h => h hg), if_neg (fun h => h hn)]
      rw [e2]
      exact Oc.rcount_ok w b _ _ l _ v h e1 hn (by decide)
    · have e2 : cntS l = (Oc.longE (Oc.rg l).2.1, 0, l) := by unfold cntS; rw [if_neg (fun h => h hg), if_pos hn]
      rw [e2]
      exact Oc.rcount_long w b _ _ l _ v h e1 hn (by decide) (by decide)
  · have e2 : cntS l = ((Oc.rg l).1, 0, l) := by unfold cntS; rw [if_pos hg]
    rw [e2]
    exact Oc.rcount_err w b _ l v h hg (by decide) (by decide)
theorem longE_ne (n : Nat) : ¬ Oc.longE n = 0 := Oc.longE_ne n
/-- Text of at most so many bytes. -/
theorem text_at {w : World} {b : Nat} {l : List Int} {v : Value} (h : Oc.RdR w b 0 l v) :
    Calls Tryz.prog 120 #[.pointer (some ⟨b, 0, none⟩), .int .i64 1048576] w (fun e w' => e = .returned (.string (Oc.strOf (txt l).2.1)) ∧ Oc.RdTo b w (txt l).1 (txt l).2.2 w') := by
  have e0 : Oc.strOf ([] : List Int) = ByteArray.empty := rfl
  by_cases hg : (Oc.rg l).1 = 0
  · have e1 : Oc.rg l = (0, (Oc.rg l).2.1, (Oc.rg l).2.2) := by rw [← hg]
    by_cases hn : ((Oc.rg l).2.1 : Int) ≤ 1048576
    · by_cases hs : (Oc.rg l).2.2.length < (Oc.rg l).2.1
      · have e2 : txt l = (12, [], l) := by unfold txt; rw [if_neg (fun h => h hg), if_neg (fun h => h hn), if_pos hs]
        rw [e2]
        exact Oc.rtext_short w b _ _ l _ v h e1 hn (by decide) hs
      · have e2 : txt l = (0, (Oc.rg l).2.2.take (Oc.rg l).2.1, (Oc.rg l).2.2.drop (Oc.rg l).2.1) := by unfold txt; rw [if_neg (fun h => h hg), if_neg (fun h => h hn), if_neg hs]
        rw [e2]
        exact Oc.rtext_ok w b _ _ l _ v h e1 hn (by decide) (by omega)
    · have e2 : txt l = (Oc.longE (Oc.rg l).2.1, [], l) := by unfold txt; rw [if_neg (fun h => h hg), if_pos hn]
      rw [e2]
      exact Oc.rtext_err w b _ _ l v h (longE_ne _) (fun W hW => Oc.rcount_long W b _ _ l _ v hW e1 hn (by decide) (by decide))
  · have e2 : txt l = ((Oc.rg l).1, [], l) := by unfold txt; rw [if_pos hg]
    rw [e2]
    exact Oc.rtext_err w b _ _ l v h hg (fun W hW => Oc.rcount_err W b _ l v hW hg (by decide) (by decide))
/-- Bytes of a text, in a block of their own. -/
theorem conv_str (w : World) (l : List Int) (hb : bok l) : ∃ c w', (convert 9 32 (.string (Oc.strOf l))).run Tryz.prog w = .ok (.slice (some ⟨w.heap.size, 0, none⟩) l.length c) w' ∧ BAt w' (.slice (some ⟨w.heap.size, 0, none⟩) l.length c) l ∧ Below w.heap.size w w' := by
  have e1 : (Oc.strOf l).size = l.length := Oc.strOf_len l
  have hr := Lib.run_convert_string_bytes (P := Tryz.prog) w 9 32 5 (Oc.strOf l) Tryz.underlying9 Tryz.underlying32 Tryz.underlying5
  rw [e1] at hr
  refine ⟨_, _, hr, ⟨_, _, rfl, ?_, fun hp => ⟨w.heap.size, 0, rfl, ?_, fun j hj => ?_⟩⟩, ?_⟩
  · exact grownCap_ge w _ _ _
  · rw [Lib.bytesWorld_size]; omega
  · rw [Nat.zero_add, Lib.bytesWorld_cell _ _ _ _ (by omega)]
    have hj2 : j < (Oc.strOf l).data.toList.length := by
      have : (Oc.strOf l).data.toList.length = (Oc.strOf l).size := Array.length_toList
      omega
    have h1 := Oc.sb_strOf hb
    have h2 : l.getD j 0 = ((Oc.sb (Oc.strOf l)).getD j 0) := by rw [h1]
    rw [h2]
    unfold Oc.sb
    simp only [List.getD, List.getElem?_map, List.getElem?_eq_getElem hj2, Option.map_some, Option.getD_some]
  · exact ⟨rfl, rfl, rfl, by rw [Lib.bytesWorld_size]; omega, fun k hk => Lib.bytesWorld_at_old w _ _ k hk⟩
end Go.Proofs.YtjijgoflbjbnfaaGreat.Sp

namespace Go.Proofs.YtjijgoflbjbnfaaGreat.Sp
open Go.RowKit Fr
attribute [local go_sem] Oper.semAt_some

theorem rowsInf : (Tryz.prog.info? 32).map (fun i => (i.zero, i.size, i.bytes)) = some (some (.slice none 0 0), 1, 24) := by kernel_rfl
/-- One slice of bytes behind the row. -/
theorem app_row {w : World} {base : Nat} {v u : Value} {us : List Value} {n g : Nat} (h : w.ownsRow base 32 1 v n us) (hn : n ≤ 100000) (hb : base ≤ w.heap.size) (hg : w.heap[g]? = some (.cells #[u] 32 (0, 0))) (hu : u.oneCell' = true) :
    ∃ A' n' c' w', (Builtin.append_ #[31, 31] 31 #[v, .slice (some ⟨g, 0, none⟩) 1 1]).run Tryz.prog w = .ok (.slice A' n' c') w' ∧ w'.ownsRow base 32 1 (.slice A' n' c') (n + 1) (us ++ [u]) ∧ w.grownBy w' v.ownBlock ∧ ∀ i, (Value.slice A' n' c').ownBlock = some i → v.ownBlock = some i ∨ w.heap.size ≤ i := by
  obtain ⟨i0, hi0, hz0, hz1, hz2⟩ := info_parts rowsInf
  obtain ⟨v', w', hr, ho, hgr, _, hat⟩ := run_append_own_at (P := Tryz.prog) w base 31 31 32 i0 (.slice none 0 0) 1 24 Tryz.underlying31 hi0 hz0 hz1 hz2 rfl (by decide) v n us h ⟨g, 0, none⟩ 1 1 [u] rfl (World.news_of_block (cs := #[u]) hg) (by simpa using hu) (by unfold maxLen; omega) (by omega) hb
  obtain ⟨A5, n5, c5, rfl⟩ : ∃ A n c, v' = .slice A n c := by
    rcases ho.2 with ⟨h7, _⟩ | ⟨g, cap, cur, h7, _⟩
    · exact ⟨none, 0, 0, h7⟩
    · exact ⟨_, _, _, h7⟩
  refine ⟨A5, n5, c5, w', hr, ho, hgr, fun i hi => ?_⟩
  rcases hat with h2 | h2
  · exact .inl (h2.symm.trans hi)
  · rw [h2] at hi; cases hi; exact .inr (Nat.le_refl _)
/-- What is read so far: an own row of own bytes, beside the reader b. -/
structure LI (w : World) (b : Nat) (W : World) (v : Value) (bs : List (List Int)) : Prop where
  row : ∃ us : List Value, W.ownsRow w.heap.size 32 1 v bs.length us ∧ ∀ (i : Nat) (u : Value) (l : List Int), us[i]? = some u → bs[i]? = some l → BAt W u l ∧ BK (fun k => v.ownBlock ≠ some k ∧ k ≠ b ∧ w.heap.size ≤ k) u l
  bel : w.grownBy W (some b)
theorem LI.nil {w : World} {b : Nat} {W : World} (h : w.grownBy W (some b)) : LI w b W (.slice none 0 0) [] := ⟨⟨[], World.ownsRow_nil _ _ _ _, fun i u l hu => by simp at hu⟩, h⟩
theorem LI.toF {w : World} {b : Nat} {W : World} {v : Value} {bs : List (List Int)} (h : LI w b W v bs) : RowsF w.heap.size W v bs := by
  obtain ⟨us, h1, h2⟩ := h.row
  rcases h1.2 with ⟨e, h0⟩ | ⟨g, cap, cur, e, hg, hh, _⟩
  · exact ⟨none, 0, by rw [e, h0], fun hp => by omega⟩
  · refine ⟨_, cap, e, fun hp => ⟨g, 0, rfl, hg, (Array.getElem?_eq_some_iff.1 hh).1, fun i l hi => ?_⟩⟩
    have hl : us.length = bs.length := by have := h1.1; simpa using this
    have hi2 : i < us.length := by rw [hl]; exact (List.getElem?_eq_some_iff.1 hi).1
    have hu : us[i]? = some us[i] := List.getElem?_eq_getElem hi2
    refine ⟨us[i], ?_, (h2 i _ l hu hi).1, fun hp a n c ha => ((h2 i _ l hu hi).2 hp a n c ha).2.2⟩
    have h3 := h1.cells (g := g) (by rw [e]; rfl) i _ hu
    rwa [show (⟨g, 0, none⟩ : Addr).add i = ⟨g, 0 + i, none⟩ from by unfold Addr.add; split <;> simp_all] at h3
theorem LI.step {w W W3 : World} {b : Nat} {v u : Value} {bs : List (List Int)} {l : List Int} (h : LI w b W v bs) (hbw : b < w.heap.size) (hg : W.grownBy W3 (some b)) (hu : BAt W3 u l) (hk : BK (fun k => W.heap.size ≤ k) u l) (hu1 : u.oneCell' = true) (hn : bs.length ≤ 100000) :
    ∃ A n c W5, (Builtin.append_ #[31, 31] 31 #[v, .slice (some ⟨W3.heap.size, 0, none⟩) 1 1]).run Tryz.prog (W3.alloc (.cells #[u] 32)) = .ok (.slice A n c) W5 ∧ LI w b W5 (.slice A n c) (bs ++ [l]) ∧ ∀ k, k ≤ b → W5.heap[k]? = W3.heap[k]? := by
  obtain ⟨us, h1, h2⟩ := h.row
  have hvb : ∀ i, v.ownBlock = some i → w.heap.size ≤ i ∧ i < W.heap.size := fun i hi => h1.lt i hi
  have hs1 := h.bel.size
  have hs2 := hg.size
  have hal := Jo.alloc_below W3 (.cells #[u] 32)
  have hsz : (W3.alloc (.cells #[u] 32)).heap.size = W3.heap.size + 1 := by simp
  have own3 : (W3.alloc (.cells #[u] 32)).ownsRow w.heap.size 32 1 v bs.length us := Oc.ownsRow_kept h1 (fun g hgg => by
    have h3 := hvb g hgg
    rw [hal.block g (by omega), hg.block g h3.2 (fun e => by cases e; omega)])
  obtain ⟨A, n, c, W5, hr, ho, hg5, hn5⟩ := app_row (u := u) own3 hn (by omega) (block_new W3 _) hu1
  have k5 : ∀ k, k < W3.heap.size → v.ownBlock ≠ some k → W5.heap[k]? = W3.heap[k]? := fun k hk hv => (hg5.block k (by omega) (fun e => hv e.symm)).trans (hal.block k hk)
  refine ⟨A, n, c, W5, hr, ⟨⟨us ++ [u], by rw [List.length_append]; exact ho, fun i x y hx hy => ?_⟩, ?_⟩, fun k hkb => k5 k (by omega) (fun e => by have := (hvb k e).1; omega)⟩
  · have hul : us.length = bs.length := by have := h1.1; simpa using this
    rw [List.getElem?_append] at hx hy
    split at hx
    · rename_i hi
      rw [if_pos (by omega)] at hy
      obtain ⟨a1, a2⟩ := h2 i x y hx hy
      have a3 : BAt W3 x y := bat_kept a1 (fun hp a n c e => by
        have h5 := a2 hp a n c e
        exact hg.block _ (bat_lt a1 hp e) (fun e2 => h5.2.1 (Option.some.inj e2)))
      refine ⟨bat_kept a3 (fun hp a n c e => k5 _ (bat_lt a3 hp e) (a2 hp a n c e).1), fun hp a n c e => ⟨fun e3 => ?_, (a2 hp a n c e).2⟩⟩
      rcases hn5 _ e3 with h7 | h7
      · exact (a2 hp a n c e).1 h7
      · have := bat_lt a1 hp e; omega
    · rename_i hi
      rw [if_neg (by omega)] at hy
      have e3 : i - us.length = 0 := by
        have := (List.getElem?_eq_some_iff.1 hx).1
        simp at this; omega
      rw [e3] at hx
      rw [← hul, e3] at hy
      simp at hx hy
      subst hx hy
      refine ⟨bat_kept hu (fun hp a n c e => k5 _ (bat_lt hu hp e) (fun e4 => by have := hk hp a n c e; have := (hvb _ e4).2; omega)), fun hp a n c e => ⟨fun e4 => ?_, fun e4 => by have := hk hp a n c e; omega, by have := hk hp a n c e; omega⟩⟩
      have h8 := hk hp a n c e
      have h9 := bat_lt hu hp e
      rcases hn5 _ e4 with h7 | h7
      · have := (hvb _ h7).2; omega
      · omega
  · exact ⟨hg5.os.trans (hal.os.trans (hg.os.trans h.bel.os)), hg5.tape.trans (hal.tape.trans (hg.tape.trans h.bel.tape)), hg5.output.trans (hal.output.trans (hg.output.trans h.bel.output)), by have := hg5.size; omega, fun k hk1 hk2 => (k5 k (by omega) (fun e => by have := (hvb k e).1; omega)).trans ((hg.block k (by omega) hk2).trans (h.bel.block k hk1 hk2))⟩
theorem txt_bok {l : List Int} (h : bok l) : bok (txt l).2.1 := by
  unfold txt
  split
  · intro x hx; cases hx
  · split
    · intro x hx; cases hx
    · split
      · intro x hx; cases hx
      · rename_i h1 h2 h3
        have h1' : (Oc.rg l).1 = 0 := Classical.byContradiction h1
        have e1 : Oc.rg l = (0, (Oc.rg l).2.1, (Oc.rg l).2.2) := by rw [← h1']
        have e2 := (Oc.rg_inv h e1).2
        exact fun x hx => h x (by rw [e2]; exact List.mem_append_right _ (List.mem_of_mem_take hx))
theorem txt_err {l : List Int} (h : ¬ (txt l).1 = 0) : (txt l).2.1 = [] ∧ (txt l).2.2 = l := by
  unfold txt at h ⊢
  split
  · exact ⟨rfl, rfl⟩
  · rename_i h1
    rw [if_neg h1] at h
    split
    · exact ⟨rfl, rfl⟩
    · rename_i h2
      rw [if_neg h2] at h
      split
      · exact ⟨rfl, rfl⟩
      · rename_i h3
        rw [if_neg h3] at h
        exact absurd rfl h
set_option maxRecDepth 100000 in
set_option maxHeartbeats 4000000 in
theorem decode1_any {w : World} {b B : Nat} {l : List Int} {v : Value} (h : Oc.RdR w b 0 l v) (hB : w.heap[B]? = some (.cells #[.pointer (some ⟨b, 0, none⟩)] 169 (0, 0))) :
    Calls Tryz.prog 119 #[.pointer (some ⟨B, 0, none⟩)] w fun e w' => ∃ g k c, e = .returned (.slice (some ⟨g, 0, none⟩) k c) ∧ w.heap.size ≤ g ∧ k = (txt l).2.1.length ∧ BAt w' (.slice (some ⟨g, 0, none⟩) k c) (txt l).2.1 ∧ Oc.RdTo b w (txt l).1 (txt l).2.2 w' := by
  obtain ⟨c1, _⟩ := block_cell hB
  have HT := Lib.hid (text_at h)
  have HBK := Lib.hid (txt_bok h.2.2.1)
  clear h hB
  go_enter Tryz.func119, Tryz.ntmps119
  go_wp2_with (go_at_call 120; (with_reducible refine HT.out.mono ?_); rintro e w2 ⟨rfl, v2, hr2, hg2⟩
               have HR2 := Lib.hid hr2
               have HG2 := Lib.hid hg2
               obtain ⟨c3, w3, hcv, hba, hbel⟩ := conv_str w2 (txt l).2.1 HBK.out
               have HBA := Lib.hid hba
               have HBEL := Lib.hid hbel
               clear hr2 hg2 hba hbel)
  go_ret
  exact ⟨_, _, c3, rfl, HG2.out.size, rfl, HBA.out, v2, HR2.out.below HBEL.out, grownBy_trans HG2.out (grownBy_of_below _ HBEL.out)⟩
end Go.Proofs.YtjijgoflbjbnfaaGreat.Sp
