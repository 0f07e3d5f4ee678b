/-
  The contract of unseal. Conditions: at most a thousand bytes.
-/
import Derived.Test.YtklngdmpledgeaaPL7
namespace Go.Proofs.Ytklngdmpledgeaa.Jo
open Go.RowKit Fr
attribute [local go_sem] Oper.semAt_some

/-- A record's body: its number and its bytes. -/
def dec (l : List Int) : Option (Nat × List Int) := if (Oc.rg l).1 = 0 ∧ (Oc.rg l).2.1 ≤ 4611686018427387903 then some (Oc.rg l).2 else none
set_option maxRecDepth 100000 in
theorem ok_yes {w : World} {b : Nat} {l : List Int} {v : Value} (h : Oc.RdR w b 0 l v) : Calls Try.prog 134 #[.pointer (some ⟨b, 0, none⟩)] w fun e w' => e = .returned (.bool true) ∧ w = w' := by
  obtain ⟨⟨c1, c2⟩, _⟩ := block_cell2 h.1
  have HF := Lib.hid (Oc.failed_no w b c1)
  clear h
  go_enter Try.func134, Try.ntmps134
  go_wp2_with (go_at_call 138; (with_reducible refine HF.out.mono ?_); rintro e w' ⟨rfl, rfl⟩)
  go_ret
  exact ⟨rfl, rfl⟩
set_option maxRecDepth 100000 in
theorem ok_no {w : World} {b : Nat} {er : Int} {l : List Int} {v : Value} (h : Oc.RdR w b er l v) (he : ¬ er = 0) : Calls Try.prog 134 #[.pointer (some ⟨b, 0, none⟩)] w fun e w' => e = .returned (.bool false) ∧ w = w' := by
  obtain ⟨⟨c1, c2⟩, _⟩ := block_cell2 h.1
  have HF := Lib.hid (Oc.failed_yes w b er he c1)
  clear h
  go_enter Try.func134, Try.ntmps134
  go_wp2_with (go_at_call 138; (with_reducible refine HF.out.mono ?_); rintro e w' ⟨rfl, rfl⟩)
  go_ret
  exact ⟨rfl, rfl⟩
/-- Count at most the greatest: the mistake, the number, what is left. -/
theorem count_at {w : World} {b : Nat} {l : List Int} {v : Value} (h : Oc.RdR w b 0 l v) :
    ∃ (er : Int) (z : Nat) (r : List Int), Calls Try.prog 133 #[.pointer (some ⟨b, 0, none⟩), .int .i64 4611686018427387903] w (fun e w' => e = .returned (.int .i64 (z : Int)) ∧ Oc.RdTo b w er r w') ∧ z ≤ 4611686018427387903 ∧ (er = 0 → dec l = some (z, r)) ∧ (¬ er = 0 → dec l = none ∧ r = l ∧ z = 0) := by
  by_cases hg : (Oc.rg l).1 = 0
  · by_cases hn : (Oc.rg l).2.1 ≤ 4611686018427387903
    · have e1 : Oc.rg l = (0, (Oc.rg l).2.1, (Oc.rg l).2.2) := by rw [← hg]
      exact ⟨0, _, _, Oc.rcount_ok w b _ _ l _ v h e1 (by omega) (by decide), hn, fun _ => by unfold dec; rw [if_pos ⟨hg, hn⟩], fun h => absurd rfl h⟩
    · have e1 : Oc.rg l = (0, (Oc.rg l).2.1, (Oc.rg l).2.2) := by rw [← hg]
      exact ⟨_, 0, l, Oc.rcount_long w b _ _ l _ v h e1 (by omega) (by decide) (by decide), by omega, fun h => absurd h (Oc.longE_ne _), fun _ => ⟨by unfold dec; rw [if_neg (fun h => hn h.2)], rfl, rfl⟩⟩
  · exact ⟨_, 0, l, Oc.rcount_err w b _ l v h hg (by decide) (by decide), by omega, fun h => absurd h hg, fun _ => ⟨by unfold dec; rw [if_neg (fun h => hg h.1)], rfl, rfl⟩⟩
/-- What unseal tells. -/
def Uns (w : World) (v : Value) (l : List Int) (e : Ending) (w' : World) : Prop :=
  Below w.heap.size w w' ∧ ∃ (z : Nat) (A : Option Addr) (k c : Nat) (ok : Bool), e = .returned (.tuple #[.agg #[.int .i64 (z : Int), .slice A k c], .bool ok]) ∧ z ≤ 4611686018427387903 ∧
    ((ok = true ∧ ∃ r, dec l = some (z, r) ∧ BAt w' (.slice A k c) r ∧ ∀ K, BK K v l → BK K (.slice A k c) r) ∨ (ok = false ∧ dec l = none))
theorem rg_back {l r : List Int} {n : Nat} (hb : bok l) (h : Oc.rg l = (0, n, r)) : r.length ≤ l.length ∧ l.drop (l.length - r.length) = r := by
  obtain ⟨_, h2⟩ := Oc.rg_inv hb h
  rw [h2, List.length_append]
  refine ⟨by omega, ?_⟩
  rw [Nat.add_sub_cancel, List.drop_left' rfl]
theorem dec_back {l r : List Int} {n : Nat} (hb : bok l) (h : dec l = some (n, r)) : r.length ≤ l.length ∧ l.drop (l.length - r.length) = r := by
  unfold dec at h
  split at h
  · rename_i hc
    have h2 := Option.some.inj h
    exact rg_back hb (n := n) (by rw [← hc.1, ← h2])
  · cases h
set_option maxRecDepth 100000 in
set_option maxHeartbeats 4000000 in
theorem unseal_any (w : World) (A : Option Addr) (m c : Nat) (l : List Int) (h : BAt w (.slice A m c) l) (hb : bok l) (hm : m ≤ 1000000) :
    Calls Try.prog 119 #[.slice A m c] w (Uns w (.slice A m c) l) := by
  have hl := h.len
  have h1 : BAt (w.alloc (.cells #[.int .i64 0, .slice none 0 0] 122)) (.slice A m c) l := h.kept (alloc_below _ _)
  have HR := Lib.hid (Oc.read_any _ _ l h1 hb (by omega))
  have HL := Lib.hid h1
  have H0 := Lib.hid h
  have HB := Lib.hid hb
  have HM : Hid (l.length = m ∧ m ≤ c) := hl
  have HA0 := Lib.hid (alloc_below w (.cells #[.int .i64 0, .slice none 0 0] 122))
  have hbk := block_new w (.cells #[.int .i64 0, .slice none 0 0] 122)
  clear h h1 hb hl
  go_enter Try.func119, Try.ntmps119
  go_upto_region 2 with (go_at_call 96; (with_reducible refine HR.out.mono ?_); rintro e w2 ⟨b, u, rfl, hbz, hr, hbl⟩; have HRD := Lib.hid hr; have HB2 := Lib.hid hbl; have HBZ := Lib.hid hbz; clear hr hbl hbz)
  obtain ⟨er, z, r, hc, hz, hok, hno⟩ := count_at HRD.out
  have HC := Lib.hid hc
  clear hc
  go_upto_region 3 with (go_at_call 133; (with_reducible refine HC.out.mono ?_); rintro e w3 ⟨rfl, u3, hr3, hg3⟩; have HR3 := Lib.hid hr3; have HG3 := Lib.hid hg3; clear hr3 hg3)
  have hrl : r.length ≤ m ∧ l.drop (m - r.length) = r := by
    rw [← HM.out.1]
    by_cases he : er = 0
    · exact dec_back HB.out (hok he)
    · rw [(hno he).2.1]; exact ⟨Nat.le_refl _, by simp⟩
  obtain ⟨k, hk⟩ : ∃ k, k = r.length := ⟨_, rfl⟩
  rw [← hk] at hrl
  have HHL := Lib.hid hrl
  have hkm : k ≤ m := hrl.1
  obtain ⟨A', hA', hs⟩ := slice_from A m c (m - k) (by omega) HM.out.2
  have hL3 := HB2.out.grown HG3.out HB2.out.size (fun j hj => by cases hj; exact HBZ.out)
  have hB3 := HA0.out.trans (hL3.mono HA0.out.size)
  have b3 := block_kept hbk hL3
  have hba : BAt w (.slice A' k (c - (m - k))) r := by
    have h4 := H0.out.from (m - k) hA' (by omega)
    rw [HHL.out.2] at h4
    have e5 : m - (m - k) = k := by omega
    rw [e5] at h4
    exact h4
  have e1 : (m : Int) - (k : Int) = ((m - k : Nat) : Int) := by omega
  have e5 : m - (m - k) = k := by omega
  rw [e5] at hs
  obtain ⟨c', hc'⟩ : ∃ c', c' = c - (m - k) := ⟨_, rfl⟩
  rw [← hc'] at hs hba
  obtain ⟨q, hq⟩ : ∃ q, q = m - k := ⟨_, rfl⟩
  rw [← hq] at hs e1
  have hbk2 : ∀ K, BK K (.slice A m c) l → BK K (.slice A' k c') r := fun K hK hp a n2 c2 ha => by
    obtain ⟨A0, c0, h1, _, h3⟩ := H0.out
    obtain ⟨g, o, h4, _⟩ := h3 (by have := HM.out.1; omega)
    cases h1
    have h6 := hA' (by omega) g o h4
    cases ha
    cases h6
    exact hK (by have := HM.out.1; omega) ⟨g, o, none⟩ _ _ (by rw [h4])
  have HBK2 := Lib.hid hbk2
  have HBA := Lib.hid hba
  have HBK := Lib.hid b3
  have HB3 := Lib.hid hB3
  obtain ⟨⟨p0, p1⟩, pf0, pf1⟩ := block_cell2 b3
  have hrs2 : ∀ W, Oc.RdR W b er r u3 → Calls Try.prog 154 #[.pointer (some ⟨b, 0, none⟩)] W fun e w' => e = .returned (.int .i64 (k : Int)) ∧ W = w' := fun W hW => by rw [hk]; exact Oc.rest_any W b er r u3 hW
  have hwr : IntKind.i64.wrap ((m : Int) - (k : Int)) = (q : Int) := by rw [IntKind.wrap_i64]; omega
  have HR2 := Lib.hid hrs2
  obtain ⟨ok, hokv, hokc⟩ : ∃ ok : Bool, (∀ W, Oc.RdR W b er r u3 → Calls Try.prog 134 #[.pointer (some ⟨b, 0, none⟩)] W fun e w' => e = .returned (.bool ok) ∧ W = w') ∧ ((ok = true ∧ er = 0) ∨ (ok = false ∧ ¬ er = 0)) := by
    by_cases he : er = 0
    · exact ⟨true, fun W hW => ok_yes (by rw [← he]; exact hW), .inl ⟨rfl, he⟩⟩
    · exact ⟨false, fun W hW => ok_no hW he, .inr ⟨rfl, he⟩⟩
  have HOK := Lib.hid hokv
  have HOC := Lib.hid hokc
  have HK := Lib.hid hk
  have HOK1 := Lib.hid hok
  have HOK2 := Lib.hid hno
  clear hokv hokc hk hrs2 hc' hq hrl hL3 hB3 hba hA' hok hno hbk2 e5 hbk b3 e1
  go_region_held3 (fun w' => True) (first | trivial)
    (first
      | (go_at_call 134; (with_reducible refine (HOK.out _ (HR3.out.below (Below.refl _ _).drew)).mono ?_); rintro e w' ⟨rfl, rfl⟩)
      | (go_at_call 154; (with_reducible refine (HR2.out _ (HR3.out.below (Below.refl _ _).drew)).mono ?_); rintro e w' ⟨rfl, rfl⟩))
  all_goals
    have bk4 := block_set2 (block_set1 (w := w3) HBK.out (.int .i64 (z : Int))) (.slice A' k c')
    obtain ⟨⟨y0, y1⟩, _⟩ := block_cell2 bk4
    have hB4 : Below w.heap.size w ((w3.setCell ⟨w.heap.size, 0, none⟩ (.int .i64 (z : Int))).setCell ⟨w.heap.size, 1, none⟩ (.slice A' k c')) := (HB3.out.setCell (p := ⟨w.heap.size, 0, none⟩) (Nat.le_refl _) _).setCell (p := ⟨w.heap.size, 1, none⟩) (Nat.le_refl _) _
    have HB4 := Lib.hid hB4
    clear hB4 bk4
    go_wp2
    refine bodyPost_ret (v := .tuple #[.agg #[.int .i64 (z : Int), .slice A' k c'], .bool ok]) (by simp [results, Try.results119, go_sem, loadCells, y0, y1]) rfl ⟨HB4.out.drew, z, A', k, c', ok, rfl, hz, ?_⟩
    rcases HOC.out with ⟨h1, h2⟩ | ⟨h1, h2⟩
    · exact .inl ⟨h1, r, HOK1.out h2, HBA.out.kept HB4.out.drew, HBK2.out⟩
    · exact .inr ⟨h1, (HOK2.out h2).1⟩
end Go.Proofs.Ytklngdmpledgeaa.Jo
