/-
  The contract of unseal. Conditions: at most a thousand bytes.
-/
import Derived.Test.YtklngdmpledgeaaPB6
import Derived.Test.YtklngdmpledgeaaPB7
import Derived.Lib.ConvBytes
namespace Go.Proofs.Ytklngdmpledgeaa.Jo
open Go.RowKit Fr
attribute [local go_sem] Oper.semAt_some

/-- A record's body: its number and its bytes. -/
def dec (l : List Int) : Option (Nat × List Int) := if (Oc.rg l).1 = 0 ∧ (Oc.rg l).2.1 ≤ 4611686018427387903 then some (Oc.rg l).2 else none
set_option maxRecDepth 100000 in
theorem ok_yes {w : World} {b : Nat} {l : List Int} {v : Value} (h : Oc.RdR w b 0 l v) : Calls Try.prog 134 #[.pointer (some ⟨b, 0, none⟩)] w fun e w' => e = .returned (.bool true) ∧ w = w' := by
  obtain ⟨⟨c1, c2⟩, _⟩ := block_cell2 h.1
  have HF := Lib.hid (Oc.failed_no w b c1)
  clear h
  go_enter Try.func134, Try.ntmps134
  go_wp2_with (go_at_call 138; (with_reducible refine HF.out.mono ?_); rintro e w' ⟨rfl, rfl⟩)
  go_ret
  exact ⟨rfl, rfl⟩
set_option maxRecDepth 100000 in
theorem ok_no {w : World} {b : Nat} {er : Int} {l : List Int} {v : Value} (h : Oc.RdR w b er l v) (he : ¬ er = 0) : Calls Try.prog 134 #[.pointer (some ⟨b, 0, none⟩)] w fun e w' => e = .returned (.bool false) ∧ w = w' := by
  obtain ⟨⟨c1, c2⟩, _⟩ := block_cell2 h.1
  have HF := Lib.hid (Oc.failed_yes w b er he c1)
  clear h
  go_enter Try.func134, Try.ntmps134
  go_wp2_with (go_at_call 138; (with_reducible refine HF.out.mono ?_); rintro e w' ⟨rfl, rfl⟩)
  go_ret
  exact ⟨rfl, rfl⟩
/-- Count at most the greatest: the mistake, the number, what is left. -/
theorem count_at {w : World} {b : Nat} {l : List Int} {v : Value} (h : Oc.RdR w b 0 l v) :
    ∃ (er : Int) (z : Nat) (r : List Int), Calls Try.prog 133 #[.pointer (some ⟨b, 0, none⟩), .int .i64 4611686018427387903] w (fun e w' => e = .returned (.int .i64 (z : Int)) ∧ Oc.RdTo b w er r w') ∧ z ≤ 4611686018427387903 ∧ (er = 0 → dec l = some (z, r)) ∧ (¬ er = 0 → dec l = none ∧ r = l ∧ z = 0) := by
  by_cases hg : (Oc.rg l).1 = 0
  · by_cases hn : (Oc.rg l).2.1 ≤ 4611686018427387903
    · have e1 : Oc.rg l = (0, (Oc.rg l).2.1, (Oc.rg l).2.2) := by rw [← hg]
      exact ⟨0, _, _, Oc.rcount_ok w b _ _ l _ v h e1 (by omega) (by decide), hn, fun _ => by unfold dec; rw [if_pos ⟨hg, hn⟩], fun h => absurd rfl h⟩
    · have e1 : Oc.rg l = (0, (Oc.rg l).2.1, (Oc.rg l).2.2) := by rw [← hg]
      exact ⟨_, 0, l, Oc.rcount_long w b _ _ l _ v h e1 (by omega) (by decide) (by decide), by omega, fun h => absurd h (Oc.longE_ne _), fun _ => ⟨by unfold dec; rw [if_neg (fun h => hn h.2)], rfl, rfl⟩⟩
  · exact ⟨_, 0, l, Oc.rcount_err w b _ l v h hg (by decide) (by decide), by omega, fun h => absurd h hg, fun _ => ⟨by unfold dec; rw [if_neg (fun h => hg h.1)], rfl, rfl⟩⟩
/-- What unseal tells. -/
def Uns (w : World) (v : Value) (l : List Int) (e : Ending) (w' : World) : Prop :=
  Below w.heap.size w w' ∧ ∃ (z : Nat) (A : Option Addr) (k c : Nat) (ok : Bool), e = .returned (.tuple #[.agg #[.int .i64 (z : Int), .slice A k c], .bool ok]) ∧ z ≤ 4611686018427387903 ∧
    ((ok = true ∧ ∃ r, dec l = some (z, r) ∧ BAt w' (.slice A k c) r ∧ ∀ K, BK K v l → BK K (.slice A k c) r) ∨ (ok = false ∧ dec l = none))
theorem rg_back {l r : List Int} {n : Nat} (hb : bok l) (h : Oc.rg l = (0, n, r)) : r.length ≤ l.length ∧ l.drop (l.length - r.length) = r := by
  obtain ⟨_, h2⟩ := Oc.rg_inv hb h
  rw [h2, List.length_append]
  refine ⟨by omega, ?_⟩
  rw [Nat.add_sub_cancel, List.drop_left' rfl]
theorem dec_back {l r : List Int} {n : Nat} (hb : bok l) (h : dec l = some (n, r)) : r.length ≤ l.length ∧ l.drop (l.length - r.length) = r := by
  unfold dec at h
  split at h
  · rename_i hc
    have h2 := Option.some.inj h
    exact rg_back hb (n := n) (by rw [← hc.1, ← h2])
  · cases h
set_option maxRecDepth 100000 in
set_option maxHeartbeats 4000000 in
theorem unseal_any (w : World) (A : Option Addr) (m c : Nat) (l : List Int) (h : BAt w (.slice A m c) l) (hb : bok l) (hm : m ≤ 1000000) :
    Calls Try.prog 119 #[.slice A m c] w (Uns w (.slice A m c) l) := by
  have hl := h.len
  have h1 : BAt (w.alloc (.cells #[.int .i64 0, .slice none 0 0] 122)) (.slice A m c) l := h.kept (alloc_below _ _)
  have HR := Lib.hid (Oc.read_any _ _ l h1 hb (by omega))
  have HL := Lib.hid h1
  have H0 := Lib.hid h
  have HB := Lib.hid hb
  have HM : Hid (l.length = m ∧ m ≤ c) := hl
  have HA0 := Lib.hid (alloc_below w (.cells #[.int .i64 0, .slice none 0 0] 122))
  have hbk := block_new w (.cells #[.int .i64 0, .slice none 0 0] 122)
  clear h h1 hb hl
  go_enter Try.func119, Try.ntmps119
  go_upto_region 2 with (go_at_call 96; (with_reducible refine HR.out.mono ?_); rintro e w2 ⟨b, u, rfl, hbz, hr, hbl⟩; have HRD := Lib.hid hr; have HB2 := Lib.hid hbl; have HBZ := Lib.hid hbz; clear hr hbl hbz)
  obtain ⟨er, z, r, hc, hz, hok, hno⟩ := count_at HRD.out
  have HC := Lib.hid hc
  clear hc
  go_upto_region 3 with (go_at_call 133; (with_reducible refine HC.out.mono ?_); rintro e w3 ⟨rfl, u3, hr3, hg3⟩; have HR3 := Lib.hid hr3; have HG3 := Lib.hid hg3; clear hr3 hg3)
  have hrl : r.length ≤ m ∧ l.drop (m - r.length) = r := by
    rw [← HM.out.1]
    by_cases he : er = 0
    · exact dec_back HB.out (hok he)
    · rw [(hno he).2.1]; exact ⟨Nat.le_refl _, by simp⟩
  obtain ⟨k, hk⟩ : ∃ k, k = r.length := ⟨_, rfl⟩
  rw [← hk] at hrl
  have HHL := Lib.hid hrl
  have hkm : k ≤ m := hrl.1
  obtain ⟨A', hA', hs⟩ := slice_from A m c (m - k) (by omega) HM.out.2
  have hL3 := HB2.out.grown HG3.out HB2.out.size (fun j hj => by cases hj; exact HBZ.out)
  have hB3 := HA0.out.trans (hL3.mono HA0.out.size)
  have b3 := block_kept hbk hL3
  have hba : BAt w (.slice A' k (c - (m - k))) r := by
    have h4 := H0.out.from (m - k) hA' (by omega)
    rw [HHL.out.2] at h4
    have e5 : m - (m - k) = k := by omega
    rw [e5] at h4
    exact h4
  have e1 : (m : Int) - (k : Int) = ((m - k : Nat) : Int) := by omega
  have e5 : m - (m - k) = k := by omega
  rw [e5] at hs
  obtain ⟨c', hc'⟩ : ∃ c', c' = c - (m - k) := ⟨_, rfl⟩
  rw [← hc'] at hs hba
  obtain ⟨q, hq⟩ : ∃ q, q = m - k := ⟨_, rfl⟩
  rw [← hq] at hs e1
  have hbk2 : ∀ K, BK K (.slice A m c) l → BK K (.slice A' k c') r := fun K hK hp a n2 c2 ha => by
    obtain ⟨A0, c0, h1, _, h3⟩ := H0.out
    obtain ⟨g, o, h4, _⟩ := h3 (by have := HM.out.1; omega)
    cases h1
    have h6 := hA' (by omega) g o h4
    cases ha
    cases h6
    exact hK (by have := HM.out.1; omega) ⟨g, o, none⟩ _ _ (by rw [h4])
  have HBK2 := Lib.hid hbk2
  have HBA := Lib.hid hba
  have HBK := Lib.hid b3
  have HB3 := Lib.hid hB3
  obtain ⟨⟨p0, p1⟩, pf0, pf1⟩ := block_cell2 b3
  have hrs2 : ∀ W, Oc.RdR W b er r u3 → Calls Try.prog 154 #[.pointer (some ⟨b, 0, none⟩)] W fun e w' => e = .returned (.int .i64 (k : Int)) ∧ W = w' := fun W hW => by rw [hk]; exact Oc.rest_any W b er r u3 hW
  have hwr : IntKind.i64.wrap ((m : Int) - (k : Int)) = (q : Int) := by rw [IntKind.wrap_i64]; omega
  have HR2 := Lib.hid hrs2
  obtain ⟨ok, hokv, hokc⟩ : ∃ ok : Bool, (∀ W, Oc.RdR W b er r u3 → Calls Try.prog 134 #[.pointer (some ⟨b, 0, none⟩)] W fun e w' => e = .returned (.bool ok) ∧ W = w') ∧ ((ok = true ∧ er = 0) ∨ (ok = false ∧ ¬ er = 0)) := by
    by_cases he : er = 0
    · exact ⟨true, fun W hW => ok_yes (by rw [← he]; exact hW), .inl ⟨rfl, he⟩⟩
    · exact ⟨false, fun W hW => ok_no hW he, .inr ⟨rfl, he⟩⟩
  have HOK := Lib.hid hokv
  have HOC := Lib.hid hokc
  have HK := Lib.hid hk
  have HOK1 := Lib.hid hok
  have HOK2 := Lib.hid hno
  clear hokv hokc hk hrs2 hc' hq hrl hL3 hB3 hba hA' hok hno hbk2 e5 hbk b3 e1
  go_region_held3 (fun w' => True) (first | trivial)
    (first
      | (go_at_call 134; (with_reducible refine (HOK.out _ (HR3.out.below (Below.refl _ _).drew)).mono ?_); rintro e w' ⟨rfl, rfl⟩)
      | (go_at_call 154; (with_reducible refine (HR2.out _ (HR3.out.below (Below.refl _ _).drew)).mono ?_); rintro e w' ⟨rfl, rfl⟩))
  all_goals
    have bk4 := block_set2 (block_set1 (w := w3) HBK.out (.int .i64 (z : Int))) (.slice A' k c')
    obtain ⟨⟨y0, y1⟩, _⟩ := block_cell2 bk4
    have hB4 : Below w.heap.size w ((w3.setCell ⟨w.heap.size, 0, none⟩ (.int .i64 (z : Int))).setCell ⟨w.heap.size, 1, none⟩ (.slice A' k c')) := (HB3.out.setCell (p := ⟨w.heap.size, 0, none⟩) (Nat.le_refl _) _).setCell (p := ⟨w.heap.size, 1, none⟩) (Nat.le_refl _) _
    have HB4 := Lib.hid hB4
    clear hB4 bk4
    go_wp2
    refine bodyPost_ret (v := .tuple #[.agg #[.int .i64 (z : Int), .slice A' k c'], .bool ok]) (by simp [results, Try.results119, go_sem, loadCells, y0, y1]) rfl ⟨HB4.out.drew, z, A', k, c', ok, rfl, hz, ?_⟩
    rcases HOC.out with ⟨h1, h2⟩ | ⟨h1, h2⟩
    · exact .inl ⟨h1, r, HOK1.out h2, HBA.out.kept HB4.out.drew, HBK2.out⟩
    · exact .inr ⟨h1, (HOK2.out h2).1⟩
end Go.Proofs.Ytklngdmpledgeaa.Jo

namespace Go.Proofs.Ytklngdmpledgeaa.Sp
open Go.RowKit Fr
attribute [local go_sem] Oper.semAt_some

/-- Count at most ten thousand. -/
theorem count_at {w : World} {b : Nat} {l : List Int} {v : Value} (h : Oc.RdR w b 0 l v) :
    Calls Try.prog 133 #[.pointer (some ⟨b, 0, none⟩), .int .i64 10000] w (fun e w' => e = .returned (.int .i64 ((cntS l).2.1 : Int)) ∧ Oc.RdTo b w (cntS l).1 (cntS l).2.2 w') := by
  by_cases hg : (Oc.rg l).1 = 0
  · have e1 : Oc.rg l = (0, (Oc.rg l).2.1, (Oc.rg l).2.2) := by rw [← hg]
    by_cases hn : ((Oc.rg l).2.1 : Int) ≤ 10000
    · have e2 : cntS l = (0, (Oc.rg l).2.1, (Oc.rg l).2.2) := by unfold cntS; rw [if_neg (fun h => h hg), if_neg (fun h => h hn)]
      rw [e2]
      exact Oc.rcount_ok w b _ _ l _ v h e1 hn (by decide)
    · have e2 : cntS l = (Oc.longE (Oc.rg l).2.1, 0, l) := by unfold cntS; rw [if_neg (fun h => h hg), if_pos hn]
      rw [e2]
      exact Oc.rcount_long w b _ _ l _ v h e1 hn (by decide) (by decide)
  · have e2 : cntS l = ((Oc.rg l).1, 0, l) := by unfold cntS; rw [if_pos hg]
    rw [e2]
    exact Oc.rcount_err w b _ l v h hg (by decide) (by decide)
theorem longE_ne (n : Nat) : ¬ Oc.longE n = 0 := Oc.longE_ne n
/-- Text of at most so many bytes. -/
theorem text_at {w : World} {b : Nat} {l : List Int} {v : Value} (h : Oc.RdR w b 0 l v) :
    Calls Try.prog 99 #[.pointer (some ⟨b, 0, none⟩), .int .i64 1048576] w (fun e w' => e = .returned (.string (Oc.strOf (txt l).2.1)) ∧ Oc.RdTo b w (txt l).1 (txt l).2.2 w') := by
  have e0 : Oc.strOf ([] : List Int) = ByteArray.empty := rfl
  by_cases hg : (Oc.rg l).1 = 0
  · have e1 : Oc.rg l = (0, (Oc.rg l).2.1, (Oc.rg l).2.2) := by rw [← hg]
    by_cases hn : ((Oc.rg l).2.1 : Int) ≤ 1048576
    · by_cases hs : (Oc.rg l).2.2.length < (Oc.rg l).2.1
      · have e2 : txt l = (12, [], l) := by unfold txt; rw [if_neg (fun h => h hg), if_neg (fun h => h hn), if_pos hs]
        rw [e2]
        exact Oc.rtext_short w b _ _ l _ v h e1 hn (by decide) hs
      · have e2 : txt l = (0, (Oc.rg l).2.2.take (Oc.rg l).2.1, (Oc.rg l).2.2.drop (Oc.rg l).2.1) := by unfold txt; rw [if_neg (fun h => h hg), if_neg (fun h => h hn), if_neg hs]
        rw [e2]
        exact Oc.rtext_ok w b _ _ l _ v h e1 hn (by decide) (by omega)
    · have e2 : txt l = (Oc.longE (Oc.rg l).2.1, [], l) := by unfold txt; rw [if_neg (fun h => h hg), if_pos hn]
      rw [e2]
      exact Oc.rtext_err w b _ _ l v h (longE_ne _) (fun W hW => Oc.rcount_long W b _ _ l _ v hW e1 hn (by decide) (by decide))
  · have e2 : txt l = ((Oc.rg l).1, [], l) := by unfold txt; rw [if_pos hg]
    rw [e2]
    exact Oc.rtext_err w b _ _ l v h hg (fun W hW => Oc.rcount_err W b _ l v hW hg (by decide) (by decide))
/-- Bytes of a text, in a block of their own. -/
theorem conv_str (w : World) (l : List Int) (hb : bok l) : ∃ c w', (convert 9 32 (.string (Oc.strOf l))).run Try.prog w = .ok (.slice (some ⟨w.heap.size, 0, none⟩) l.length c) w' ∧ BAt w' (.slice (some ⟨w.heap.size, 0, none⟩) l.length c) l ∧ Below w.heap.size w w' := by
  have e1 : (Oc.strOf l).size = l.length := Oc.strOf_len l
  have hr := Lib.run_convert_string_bytes (P := Try.prog) w 9 32 5 (Oc.strOf l) Try.underlying9 Try.underlying32 Try.underlying5
  rw [e1] at hr
  refine ⟨_, _, hr, ⟨_, _, rfl, ?_, fun hp => ⟨w.heap.size, 0, rfl, ?_, fun j hj => ?_⟩⟩, ?_⟩
  · exact grownCap_ge w _ _ _
  · rw [Lib.bytesWorld_size]; omega
  · rw [Nat.zero_add, Lib.bytesWorld_cell _ _ _ _ (by omega)]
    have hj2 : j < (Oc.strOf l).data.toList.length := by
      have : (Oc.strOf l).data.toList.length = (Oc.strOf l).size := Array.length_toList
      omega
    have h1 := Oc.sb_strOf hb
    have h2 : l.getD j 0 = ((Oc.sb (Oc.strOf l)).getD j 0) := by rw [h1]
    rw [h2]
    unfold Oc.sb
    simp only [List.getD, List.getElem?_map, List.getElem?_eq_getElem hj2, Option.map_some, Option.getD_some]
  · exact ⟨rfl, rfl, rfl, by rw [Lib.bytesWorld_size]; omega, fun k hk => Lib.bytesWorld_at_old w _ _ k hk⟩
end Go.Proofs.Ytklngdmpledgeaa.Sp

namespace Go.Proofs.Ytklngdmpledgeaa.Sp
open Go.RowKit Fr
attribute [local go_sem] Oper.semAt_some

theorem rowsInf : (Try.prog.info? 32).map (fun i => (i.zero, i.size, i.bytes)) = some (some (.slice none 0 0), 1, 24) := by kernel_rfl
/-- One slice of bytes behind the row. -/
theorem app_row {w : World} {base : Nat} {v u : Value} {us : List Value} {n g : Nat} (h : w.ownsRow base 32 1 v n us) (hn : n ≤ 100000) (hb : base ≤ w.heap.size) (hg : w.heap[g]? = some (.cells #[u] 32 (0, 0))) (hu : u.oneCell' = true) :
    ∃ A' n' c' w', (Builtin.append_ #[60, 60] 60 #[v, .slice (some ⟨g, 0, none⟩) 1 1]).run Try.prog w = .ok (.slice A' n' c') w' ∧ w'.ownsRow base 32 1 (.slice A' n' c') (n + 1) (us ++ [u]) ∧ w.grownBy w' v.ownBlock ∧ ∀ i, (Value.slice A' n' c').ownBlock = some i → v.ownBlock = some i ∨ w.heap.size ≤ i := by
  obtain ⟨i0, hi0, hz0, hz1, hz2⟩ := info_parts rowsInf
  obtain ⟨v', w', hr, ho, hgr, _, hat⟩ := run_append_own_at (P := Try.prog) w base 60 60 32 i0 (.slice none 0 0) 1 24 Try.underlying60 hi0 hz0 hz1 hz2 rfl (by decide) v n us h ⟨g, 0, none⟩ 1 1 [u] rfl (World.news_of_block (cs := #[u]) hg) (by simpa using hu) (by unfold maxLen; omega) (by omega) hb
  obtain ⟨A5, n5, c5, rfl⟩ : ∃ A n c, v' = .slice A n c := by
    rcases ho.2 with ⟨h7, _⟩ | ⟨g, cap, cur, h7, _⟩
    · exact ⟨none, 0, 0, h7⟩
    · exact ⟨_, _, _, h7⟩
  refine ⟨A5, n5, c5, w', hr, ho, hgr, fun i hi => ?_⟩
  rcases hat with h2 | h2
  · exact .inl (h2.symm.trans hi)
  · rw [h2] at hi; cases hi; exact .inr (Nat.le_refl _)
/-- What is read so far: an own row of own bytes, beside the reader b. -/
structure LI (w : World) (b : Nat) (W : World) (v : Value) (bs : List (List Int)) : Prop where
  row : ∃ us : List Value, W.ownsRow w.heap.size 32 1 v bs.length us ∧ ∀ (i : Nat) (u : Value) (l : List Int), us[i]? = some u → bs[i]? = some l → BAt W u l ∧ BK (fun k => v.ownBlock ≠ some k ∧ k ≠ b ∧ w.heap.size ≤ k) u l
  bel : w.grownBy W (some b)
theorem LI.nil {w : World} {b : Nat} {W : World} (h : w.grownBy W (some b)) : LI w b W (.slice none 0 0) [] := ⟨⟨[], World.ownsRow_nil _ _ _ _, fun i u l hu => by simp at hu⟩, h⟩
theorem LI.toF {w : World} {b : Nat} {W : World} {v : Value} {bs : List (List Int)} (h : LI w b W v bs) : RowsF w.heap.size W v bs := by
  obtain ⟨us, h1, h2⟩ := h.row
  rcases h1.2 with ⟨e, h0⟩ | ⟨g, cap, cur, e, hg, hh, _⟩
  · exact ⟨none, 0, by rw [e, h0], fun hp => by omega⟩
  · refine ⟨_, cap, e, fun hp => ⟨g, 0, rfl, hg, (Array.getElem?_eq_some_iff.1 hh).1, fun i l hi => ?_⟩⟩
    have hl : us.length = bs.length := by have := h1.1; simpa using this
    have hi2 : i < us.length := by rw [hl]; exact (List.getElem?_eq_some_iff.1 hi).1
    have hu : us[i]? = some us[i] := List.getElem?_eq_getElem hi2
    refine ⟨us[i], ?_, (h2 i _ l hu hi).1, fun hp a n c ha => ((h2 i _ l hu hi).2 hp a n c ha).2.2⟩
    have h3 := h1.cells (g := g) (by rw [e]; rfl) i _ hu
    rwa [show (⟨g, 0, none⟩ : Addr).add i = ⟨g, 0 + i, none⟩ from by unfold Addr.add; split <;> simp_all] at h3
theorem LI.step {w W W3 : World} {b : Nat} {v u : Value} {bs : List (List Int)} {l : List Int} (h : LI w b W v bs) (hbw : b < w.heap.size) (hg : W.grownBy W3 (some b)) (hu : BAt W3 u l) (hk : BK (fun k => W.heap.size ≤ k) u l) (hu1 : u.oneCell' = true) (hn : bs.length ≤ 100000) :
    ∃ A n c W5, (Builtin.append_ #[60, 60] 60 #[v, .slice (some ⟨W3.heap.size, 0, none⟩) 1 1]).run Try.prog (W3.alloc (.cells #[u] 32)) = .ok (.slice A n c) W5 ∧ LI w b W5 (.slice A n c) (bs ++ [l]) ∧ ∀ k, k ≤ b → W5.heap[k]? = W3.heap[k]? := by
  obtain ⟨us, h1, h2⟩ := h.row
  have hvb : ∀ i, v.ownBlock = some i → w.heap.size ≤ i ∧ i < W.heap.size := fun i hi => h1.lt i hi
  have hs1 := h.bel.size
  have hs2 := hg.size
  have hal := Jo.alloc_below W3 (.cells #[u] 32)
  have hsz : (W3.alloc (.cells #[u] 32)).heap.size = W3.heap.size + 1 := by simp
  have own3 : (W3.alloc (.cells #[u] 32)).ownsRow w.heap.size 32 1 v bs.length us := Oc.ownsRow_kept h1 (fun g hgg => by
    have h3 := hvb g hgg
    rw [hal.block g (by omega), hg.block g h3.2 (fun e => by cases e; omega)])
  obtain ⟨A, n, c, W5, hr, ho, hg5, hn5⟩ := app_row (u := u) own3 hn (by omega) (block_new W3 _) hu1
  have k5 : ∀ k, k < W3.heap.size → v.ownBlock ≠ some k → W5.heap[k]? = W3.heap[k]? := fun k hk hv => (hg5.block k (by omega) (fun e => hv e.symm)).trans (hal.block k hk)
  refine ⟨A, n, c, W5, hr, ⟨⟨us ++ [u], by rw [List.length_append]; exact ho, fun i x y hx hy => ?_⟩, ?_⟩, fun k hkb => k5 k (by omega) (fun e => by have := (hvb k e).1; omega)⟩
  · have hul : us.length = bs.length := by have := h1.1; simpa using this
    rw [List.getElem?_append] at hx hy
    split at hx
    · rename_i hi
      rw [if_pos (by omega)] at hy
      obtain ⟨a1, a2⟩ := h2 i x y hx hy
      have a3 : BAt W3 x y := bat_kept a1 (fun hp a n c e => by
        have h5 := a2 hp a n c e
        exact hg.block _ (bat_lt a1 hp e) (fun e2 => h5.2.1 (Option.some.inj e2)))
      refine ⟨bat_kept a3 (fun hp a n c e => k5 _ (bat_lt a3 hp e) (a2 hp a n c e).1), fun hp a n c e => ⟨fun e3 => ?_, (a2 hp a n c e).2⟩⟩
      rcases hn5 _ e3 with h7 | h7
      · exact (a2 hp a n c e).1 h7
      · have := bat_lt a1 hp e; omega
    · rename_i hi
      rw [if_neg (by omega)] at hy
      have e3 : i - us.length = 0 := by
        have := (List.getElem?_eq_some_iff.1 hx).1
        simp at this; omega
      rw [e3] at hx
      rw [← hul, e3] at hy
      simp at hx hy
      subst hx hy
      refine ⟨bat_kept hu (fun hp a n c e => k5 _ (bat_lt hu hp e) (fun e4 => by have := hk hp a n c e; have := (hvb _ e4).2; omega)), fun hp a n c e => ⟨fun e4 => ?_, fun e4 => by have := hk hp a n c e; omega, by have := hk hp a n c e; omega⟩⟩
      have h8 := hk hp a n c e
      have h9 := bat_lt hu hp e
      rcases hn5 _ e4 with h7 | h7
      · have := (hvb _ h7).2; omega
      · omega
  · exact ⟨hg5.os.trans (hal.os.trans (hg.os.trans h.bel.os)), hg5.tape.trans (hal.tape.trans (hg.tape.trans h.bel.tape)), hg5.output.trans (hal.output.trans (hg.output.trans h.bel.output)), by have := hg5.size; omega, fun k hk1 hk2 => (k5 k (by omega) (fun e => by have := (hvb k e).1; omega)).trans ((hg.block k (by omega) hk2).trans (h.bel.block k hk1 hk2))⟩
theorem txt_bok {l : List Int} (h : bok l) : bok (txt l).2.1 := by
  unfold txt
  split
  · intro x hx; cases hx
  · split
    · intro x hx; cases hx
    · split
      · intro x hx; cases hx
      · rename_i h1 h2 h3
        have h1' : (Oc.rg l).1 = 0 := Classical.byContradiction h1
        have e1 : Oc.rg l = (0, (Oc.rg l).2.1, (Oc.rg l).2.2) := by rw [← h1']
        have e2 := (Oc.rg_inv h e1).2
        exact fun x hx => h x (by rw [e2]; exact List.mem_append_right _ (List.mem_of_mem_take hx))
theorem txt_err {l : List Int} (h : ¬ (txt l).1 = 0) : (txt l).2.1 = [] ∧ (txt l).2.2 = l := by
  unfold txt at h ⊢
  split
  · exact ⟨rfl, rfl⟩
  · rename_i h1
    rw [if_neg h1] at h
    split
    · exact ⟨rfl, rfl⟩
    · rename_i h2
      rw [if_neg h2] at h
      split
      · exact ⟨rfl, rfl⟩
      · rename_i h3
        rw [if_neg h3] at h
        exact absurd rfl h
set_option maxRecDepth 100000 in
set_option maxHeartbeats 4000000 in
theorem decode1_any {w : World} {b B : Nat} {l : List Int} {v : Value} (h : Oc.RdR w b 0 l v) (hB : w.heap[B]? = some (.cells #[.pointer (some ⟨b, 0, none⟩)] 143 (0, 0))) :
    Calls Try.prog 98 #[.pointer (some ⟨B, 0, none⟩)] w fun e w' => ∃ g k c, e = .returned (.slice (some ⟨g, 0, none⟩) k c) ∧ w.heap.size ≤ g ∧ k = (txt l).2.1.length ∧ BAt w' (.slice (some ⟨g, 0, none⟩) k c) (txt l).2.1 ∧ Oc.RdTo b w (txt l).1 (txt l).2.2 w' := by
  obtain ⟨c1, _⟩ := block_cell hB
  have HT := Lib.hid (text_at h)
  have HBK := Lib.hid (txt_bok h.2.2.1)
  clear h hB
  go_enter Try.func98, Try.ntmps98
  go_wp2_with (go_at_call 99; (with_reducible refine HT.out.mono ?_); rintro e w2 ⟨rfl, v2, hr2, hg2⟩
               have HR2 := Lib.hid hr2
               have HG2 := Lib.hid hg2
               obtain ⟨c3, w3, hcv, hba, hbel⟩ := conv_str w2 (txt l).2.1 HBK.out
               have HBA := Lib.hid hba
               have HBEL := Lib.hid hbel
               clear hr2 hg2 hba hbel)
  go_ret
  exact ⟨_, _, c3, rfl, HG2.out.size, rfl, HBA.out, v2, HR2.out.below HBEL.out, grownBy_trans HG2.out (grownBy_of_below _ HBEL.out)⟩
end Go.Proofs.Ytklngdmpledgeaa.Sp
