/-
  The contracts of seal and unseal. Conditions: at most a thousand bytes.
-/
import Derived.Test.YtklngdmpledgeaaGreatJZ4
import Derived.Test.YtklngdmpledgeaaGreatORCnt
import Derived.Test.YtklngdmpledgeaaGreatJZ6
import Derived.Test.YtklngdmpledgeaaGreatJZ7
import Derived.Test.YtklngdmpledgeaaGreatJZ5
namespace Go.Proofs.YtklngdmpledgeaaGreat.Jo
open Go.RowKit Fr
attribute [local go_sem] Oper.semAt_some

theorem oc_at {w : World} {v : Value} {l : List Int} (h : BAt w v l) : Oc.BAt w v l := h
theorem grp_bok {n : Nat} (h : n < 18446744073709551616) : bok (Oc.grp n) := Oc.grp_bok h
theorem alloc_below (w : World) (o : Obj) : Below w.heap.size w (w.alloc o) := (Below.refl _ _).alloc (Nat.le_refl _) _
/-- The bytes of a record's frame. -/
def recF (n : Nat) (l : List Int) : List Int := frF (Oc.grp n ++ l)
theorem recF_len (n : Nat) (l : List Int) : (recF n l).length = (Oc.grp n).length + l.length + 8 := by
  unfold recF; rw [frF_len, List.length_append]
/-- Bytes behind a row, with the length by name. -/
theorem app_named {w : World} {base k m p : Nat} {v x : Value} {l b : List Int} (hown : w.ownsRow base 5 1 v k (bv l)) (hk : k = l.length) (hx : BAt w x b) (hm : b.length = m) (hp : p = k + m) (hb : p ≤ 4000000) (hbase : base ≤ w.heap.size) :
    ∃ A cap w', (Builtin.append_ #[22, 22] 22 #[v, x]).run Tryz.prog w = .ok (.slice A p cap) w' ∧ BAt w' (.slice A p cap) (l ++ b) ∧ w'.ownsRow base 5 1 (.slice A p cap) (l ++ b).length (bv (l ++ b)) ∧ w.grownBy w' v.ownBlock := by
  subst hk hm hp
  obtain ⟨A, cap, w', h1, h2, h3⟩ := app_any w base v l hown x b hx hb hbase
  exact ⟨A, cap, w', h1, BAt.of_own h2, h2, h3⟩
theorem make_atK (w : World) (A : Option Addr) (m c q : Nat) (l : List Int) (h : BAt w (.slice A m c) l) (hb : bok l) (hm : m ≤ 1048568) (hq : q = m + 8) :
    Calls Tryz.prog 56 #[.slice A m c] w fun e w' => ∃ A' c', e = .returned (.tuple #[.slice A' q c', .int .i64 0]) ∧ (BAt w' (.slice A' q c') (frF l) ∧ BK (fun k => w.heap.size ≤ k) (.slice A' q c') (frF l)) ∧ Below w.heap.size w w' := by
  have hl := h.len.1
  refine (make_any w _ l h hb (by omega)).mono fun e w' ⟨⟨A', c', h1, h2⟩, h3⟩ => ?_
  rw [hl, ← hq] at h1 h2
  refine ⟨A', c', h1, ⟨BAt.of_own h2, fun _ a n c ha => ?_⟩, h3⟩
  cases ha
  exact (h2.lt a.block rfl).1
set_option maxRecDepth 100000 in
set_option maxHeartbeats 4000000 in
theorem seal_any (w : World) (n : Nat) (A : Option Addr) (m c : Nat) (l : List Int) (h : BAt w (.slice A m c) l) (hb : bok l) (hm : m ≤ 1000) (hn : n < 9223372036854775808) :
    Calls Tryz.prog 33 #[.int .i64 (n : Int), .slice A m c] w fun e w' => ∃ A' q c', e = .returned (.tuple #[.slice A' q c', .int .i64 0]) ∧ q = (recF n l).length ∧ (BAt w' (.slice A' q c') (recF n l) ∧ BK (fun k => w.heap.size ≤ k) (.slice A' q c') (recF n l)) ∧ Below w.heap.size w w' := by
  obtain ⟨b, hbz⟩ : ∃ b, b = w.heap.size := ⟨_, rfl⟩
  have hw0 : Oc.WrR (w.alloc (.cells #[.int .i64 0, .slice none 0 0] 111)) b 0 [] (.slice none 0 0) := ⟨by rw [hbz]; exact block_new _ _, World.ownsRow_nil _ _ _ _, by simp⟩
  obtain ⟨hg1, hg2⟩ := Oc.grp_len n
  have HC := Lib.hid (Oc.count_any _ b 0 n [] _ hw0 hn (fun _ => by simp; omega))
  have HB0 : Hid (Below b w (w.alloc (.cells #[.int .i64 0, .slice none 0 0] 111))) := by rw [hbz]; exact alloc_below _ _
  have HW0 := Lib.hid hw0
  have HL := Lib.hid h
  have hlm := h.len.1
  obtain ⟨k, hk⟩ : ∃ k, k = (Oc.grp n).length := ⟨_, rfl⟩
  obtain ⟨p, hp⟩ : ∃ p, p = k + m := ⟨_, rfl⟩
  obtain ⟨q, hq⟩ : ∃ q, q = p + 8 := ⟨_, rfl⟩
  have HD : Hid (k = (Oc.grp n).length ∧ p = k + m ∧ q = p + 8 ∧ l.length = m ∧ k ≤ 10 ∧ bok l) := ⟨hk, hp, hq, hlm, by omega, hb⟩
  have hfin : q = (recF n l).length := by rw [recF_len]; omega
  have HF := Lib.hid hfin
  have hp2 : p ≤ 1010 := by omega
  subst hbz
  clear hw0 h hb hg1 hg2 hlm hk hp hq hfin hm
  go_enter Tryz.func33, Tryz.ntmps33
  go_wp2_with (first
    | (go_at_call 56; (with_reducible refine HM.out.mono ?_); rintro e w5 ⟨A5, c5, rfl, ha5, hb5⟩; have HA5 := Lib.hid ha5; have HB5 := Lib.hid (HB4.out.trans (hb5.mono HB4.out.size)); clear ha5 hb5)
    | (at_builtin; refine Lib.wpList_append_run _ rfl _ _ 22 22 rfl _ _ rfl rfl _ _ HR.out ?_)
    | (go_at_call 55; (with_reducible refine HDN.out.mono ?_); rintro e w3 ⟨A3, c3, rfl, ho3, hb3⟩
       have HB3 : Hid (Below w.heap.size w w3) := HB2.out.trans (hb3.mono HB2.out.size)
       obtain ⟨A4, c4, w4, hr4, hb4, ho4, hg4⟩ := app_named (p := p) ho3 HD.out.1 (HL.out.kept HB3.out) HD.out.2.2.2.1 HD.out.2.1 (by omega) hb3.size
       have HR := Lib.hid hr4
       have HB4 : Hid (Below w.heap.size w w4) := HB3.out.grown hg4 HB3.out.size (fun j hj => by have := (ho3.lt j hj).1; have := HB2.out.size; omega)
       have hm4 := make_atK w4 A4 p c4 q (Oc.grp n ++ l) hb4 (bok_app (grp_bok (by omega)) HD.out.2.2.2.2.2) (by omega) HD.out.2.2.1
       have HM := Lib.hid hm4
       clear ho3 hb3 ho4 hg4 hr4 hm4 hb4)
    | (go_at_call 54; (with_reducible refine HC.out.mono ?_); rintro e w2 ⟨rfl, h2⟩
       obtain ⟨v2, hw2, hf2⟩ := h2
       have hw2' : Oc.WrR w2 w.heap.size 0 (Oc.grp n) v2 := by
         have e : Oc.addB 0 [] (Oc.grp n) = Oc.grp n := by rw [Oc.addB_no]; rfl
         rw [e] at hw2; exact hw2
       have HB2 : Hid (Below w.heap.size w w2) := HB0.out.trans (hf2.below HW0.out (Nat.le_refl _))
       have hdn := Oc.wdone_any w2 w.heap.size 0 (Oc.grp n) v2 hw2'
       rw [← HD.out.1] at hdn
       have HDN := Lib.hid hdn
       clear hw2 hf2 hw2' hdn))
  go_ret2
  exact ⟨A5, q, c5, rfl, HF.out, ⟨HA5.out.1, fun hp a n c ha => Nat.le_trans HB4.out.size (HA5.out.2 hp a n c ha)⟩, HB5.out⟩
end Go.Proofs.YtklngdmpledgeaaGreat.Jo

namespace Go.Proofs.YtklngdmpledgeaaGreat.Jo
open Go.RowKit Fr
attribute [local go_sem] Oper.semAt_some

/-- A record's body: its number and its bytes. -/
def dec (l : List Int) : Option (Nat × List Int) := if (Oc.rg l).1 = 0 ∧ (Oc.rg l).2.1 ≤ 4611686018427387903 then some (Oc.rg l).2 else none
set_option maxRecDepth 100000 in
theorem ok_yes {w : World} {b : Nat} {l : List Int} {v : Value} (h : Oc.RdR w b 0 l v) : Calls Tryz.prog 72 #[.pointer (some ⟨b, 0, none⟩)] w fun e w' => e = .returned (.bool true) ∧ w = w' := by
  obtain ⟨⟨c1, c2⟩, _⟩ := block_cell2 h.1
  have HF := Lib.hid (Oc.failed_no w b c1)
  clear h
  go_enter Tryz.func72, Tryz.ntmps72
  go_wp2_with (go_at_call 93; (with_reducible refine HF.out.mono ?_); rintro e w' ⟨rfl, rfl⟩)
  go_ret
  exact ⟨rfl, rfl⟩
set_option maxRecDepth 100000 in
theorem ok_no {w : World} {b : Nat} {er : Int} {l : List Int} {v : Value} (h : Oc.RdR w b er l v) (he : ¬ er = 0) : Calls Tryz.prog 72 #[.pointer (some ⟨b, 0, none⟩)] w fun e w' => e = .returned (.bool false) ∧ w = w' := by
  obtain ⟨⟨c1, c2⟩, _⟩ := block_cell2 h.1
  have HF := Lib.hid (Oc.failed_yes w b er he c1)
  clear h
  go_enter Tryz.func72, Tryz.ntmps72
  go_wp2_with (go_at_call 93; (with_reducible refine HF.out.mono ?_); rintro e w' ⟨rfl, rfl⟩)
  go_ret
  exact ⟨rfl, rfl⟩
/-- Count at most the greatest: the mistake, the number, what is left. -/
theorem count_at {w : World} {b : Nat} {l : List Int} {v : Value} (h : Oc.RdR w b 0 l v) :
    ∃ (er : Int) (z : Nat) (r : List Int), Calls Tryz.prog 70 #[.pointer (some ⟨b, 0, none⟩), .int .i64 4611686018427387903] w (fun e w' => e = .returned (.int .i64 (z : Int)) ∧ Oc.RdTo b w er r w') ∧ z ≤ 4611686018427387903 ∧ (er = 0 → dec l = some (z, r)) ∧ (¬ er = 0 → dec l = none ∧ r = l ∧ z = 0) := by
  by_cases hg : (Oc.rg l).1 = 0
  · by_cases hn : (Oc.rg l).2.1 ≤ 4611686018427387903
    · have e1 : Oc.rg l = (0, (Oc.rg l).2.1, (Oc.rg l).2.2) := by rw [← hg]
      exact ⟨0, _, _, Oc.rcount_ok w b _ _ l _ v h e1 (by omega) (by decide), hn, fun _ => by unfold dec; rw [if_pos ⟨hg, hn⟩], fun h => absurd rfl h⟩
    · have e1 : Oc.rg l = (0, (Oc.rg l).2.1, (Oc.rg l).2.2) := by rw [← hg]
      exact ⟨_, 0, l, Oc.rcount_long w b _ _ l _ v h e1 (by omega) (by decide) (by decide), by omega, fun h => absurd h (Oc.longE_ne _), fun _ => ⟨by unfold dec; rw [if_neg (fun h => hn h.2)], rfl, rfl⟩⟩
  · exact ⟨_, 0, l, Oc.rcount_err w b _ l v h hg (by decide) (by decide), by omega, fun h => absurd h hg, fun _ => ⟨by unfold dec; rw [if_neg (fun h => hg h.1)], rfl, rfl⟩⟩
/-- What unseal tells. -/
def Uns (w : World) (v : Value) (l : List Int) (e : Ending) (w' : World) : Prop :=
  Below w.heap.size w w' ∧ ∃ (z : Nat) (A : Option Addr) (k c : Nat) (ok : Bool), e = .returned (.tuple #[.agg #[.int .i64 (z : Int), .slice A k c], .bool ok]) ∧ z ≤ 4611686018427387903 ∧
    ((ok = true ∧ ∃ r, dec l = some (z, r) ∧ BAt w' (.slice A k c) r ∧ ∀ K, BK K v l → BK K (.slice A k c) r) ∨ (ok = false ∧ dec l = none))
theorem rg_back {l r : List Int} {n : Nat} (hb : bok l) (h : Oc.rg l = (0, n, r)) : r.length ≤ l.length ∧ l.drop (l.length - r.length) = r := by
  obtain ⟨_, h2⟩ := Oc.rg_inv hb h
  rw [h2, List.length_append]
  refine ⟨by omega, ?_⟩
  rw [Nat.add_sub_cancel, List.drop_left' rfl]
theorem dec_back {l r : List Int} {n : Nat} (hb : bok l) (h : dec l = some (n, r)) : r.length ≤ l.length ∧ l.drop (l.length - r.length) = r := by
  unfold dec at h
  split at h
  · rename_i hc
    have h2 := Option.some.inj h
    exact rg_back hb (n := n) (by rw [← hc.1, ← h2])
  · cases h
set_option maxRecDepth 100000 in
set_option maxHeartbeats 4000000 in
theorem unseal_any (w : World) (A : Option Addr) (m c : Nat) (l : List Int) (h : BAt w (.slice A m c) l) (hb : bok l) (hm : m ≤ 1000000) :
    Calls Tryz.prog 48 #[.slice A m c] w (Uns w (.slice A m c) l) := by
  have hl := h.len
  have h1 : BAt (w.alloc (.cells #[.int .i64 0, .slice none 0 0] 72)) (.slice A m c) l := h.kept (alloc_below _ _)
  have HR := Lib.hid (Oc.read_any _ _ l h1 hb (by omega))
  have HL := Lib.hid h1
  have H0 := Lib.hid h
  have HB := Lib.hid hb
  have HM : Hid (l.length = m ∧ m ≤ c) := hl
  have HA0 := Lib.hid (alloc_below w (.cells #[.int .i64 0, .slice none 0 0] 72))
  have hbk := block_new w (.cells #[.int .i64 0, .slice none 0 0] 72)
  clear h h1 hb hl
  go_enter Tryz.func48, Tryz.ntmps48
  go_upto_region 2 with (go_at_call 69; (with_reducible refine HR.out.mono ?_); rintro e w2 ⟨b, u, rfl, hbz, hr, hbl⟩; have HRD := Lib.hid hr; have HB2 := Lib.hid hbl; have HBZ := Lib.hid hbz; clear hr hbl hbz)
  obtain ⟨er, z, r, hc, hz, hok, hno⟩ := count_at HRD.out
  have HC := Lib.hid hc
  clear hc
  go_upto_region 3 with (go_at_call 70; (with_reducible refine HC.out.mono ?_); rintro e w3 ⟨rfl, u3, hr3, hg3⟩; have HR3 := Lib.hid hr3; have HG3 := Lib.hid hg3; clear hr3 hg3)
  have hrl : r.length ≤ m ∧ l.drop (m - r.length) = r := by
    rw [← HM.out.1]
    by_cases he : er = 0
    · exact dec_back HB.out (hok he)
    · rw [(hno he).2.1]; exact ⟨Nat.le_refl _, by simp⟩
  obtain ⟨k, hk⟩ : ∃ k, k = r.length := ⟨_, rfl⟩
  rw [← hk] at hrl
  have HHL := Lib.hid hrl
  have hkm : k ≤ m := hrl.1
  obtain ⟨A', hA', hs⟩ := slice_from A m c (m - k) (by omega) HM.out.2
  have hL3 := HB2.out.grown HG3.out HB2.out.size (fun j hj => by cases hj; exact HBZ.out)
  have hB3 := HA0.out.trans (hL3.mono HA0.out.size)
  have b3 := block_kept hbk hL3
  have hba : BAt w (.slice A' k (c - (m - k))) r := by
    have h4 := H0.out.from (m - k) hA' (by omega)
    rw [HHL.out.2] at h4
    have e5 : m - (m - k) = k := by omega
    rw [e5] at h4
    exact h4
  have e1 : (m : Int) - (k : Int) = ((m - k : Nat) : Int) := by omega
  have e5 : m - (m - k) = k := by omega
  rw [e5] at hs
  obtain ⟨c', hc'⟩ : ∃ c', c' = c - (m - k) := ⟨_, rfl⟩
  rw [← hc'] at hs hba
  obtain ⟨q, hq⟩ : ∃ q, q = m - k := ⟨_, rfl⟩
  rw [← hq] at hs e1
  have hbk2 : ∀ K, BK K (.slice A m c) l → BK K (.slice A' k c') r := fun K hK hp a n2 c2 ha => by
    obtain ⟨A0, c0, h1, _, h3⟩ := H0.out
    obtain ⟨g, o, h4, _⟩ := h3 (by have := HM.out.1; omega)
    cases h1
    have h6 := hA' (by omega) g o h4
    cases ha
    cases h6
    exact hK (by have := HM.out.1; omega) ⟨g, o, none⟩ _ _ (by rw [h4])
  have HBK2 := Lib.hid hbk2
  have HBA := Lib.hid hba
  have HBK := Lib.hid b3
  have HB3 := Lib.hid hB3
  obtain ⟨⟨p0, p1⟩, pf0, pf1⟩ := block_cell2 b3
  have hrs2 : ∀ W, Oc.RdR W b er r u3 → Calls Tryz.prog 71 #[.pointer (some ⟨b, 0, none⟩)] W fun e w' => e = .returned (.int .i64 (k : Int)) ∧ W = w' := fun W hW => by rw [hk]; exact Oc.rest_any W b er r u3 hW
  have hwr : IntKind.i64.wrap ((m : Int) - (k : Int)) = (q : Int) := by rw [IntKind.wrap_i64]; omega
  have HR2 := Lib.hid hrs2
  obtain ⟨ok, hokv, hokc⟩ : ∃ ok : Bool, (∀ W, Oc.RdR W b er r u3 → Calls Tryz.prog 72 #[.pointer (some ⟨b, 0, none⟩)] W fun e w' => e = .returned (.bool ok) ∧ W = w') ∧ ((ok = true ∧ er = 0) ∨ (ok = false ∧ ¬ er = 0)) := by
    by_cases he : er = 0
    · exact ⟨true, fun W hW => ok_yes (by rw [← he]; exact hW), .inl ⟨rfl, he⟩⟩
    · exact ⟨false, fun W hW => ok_no hW he, .inr ⟨rfl, he⟩⟩
  have HOK := Lib.hid hokv
  have HOC := Lib.hid hokc
  have HK := Lib.hid hk
  have HOK1 := Lib.hid hok
  have HOK2 := Lib.hid hno
  clear hokv hokc hk hrs2 hc' hq hrl hL3 hB3 hba hA' hok hno hbk2 e5 hbk b3 e1
  go_region_held3 (fun w' => True) (first | trivial)
    (first
      | (go_at_call 72; (with_reducible refine (HOK.out _ (HR3.out.below (Below.refl _ _).drew)).mono ?_); rintro e w' ⟨rfl, rfl⟩)
      | (go_at_call 71; (with_reducible refine (HR2.out _ (HR3.out.below (Below.refl _ _).drew)).mono ?_); rintro e w' ⟨rfl, rfl⟩))
  all_goals
    have bk4 := block_set2 (block_set1 (w := w3) HBK.out (.int .i64 (z : Int))) (.slice A' k c')
    obtain ⟨⟨y0, y1⟩, _⟩ := block_cell2 bk4
    have hB4 : Below w.heap.size w ((w3.setCell ⟨w.heap.size, 0, none⟩ (.int .i64 (z : Int))).setCell ⟨w.heap.size, 1, none⟩ (.slice A' k c')) := (HB3.out.setCell (p := ⟨w.heap.size, 0, none⟩) (Nat.le_refl _) _).setCell (p := ⟨w.heap.size, 1, none⟩) (Nat.le_refl _) _
    have HB4 := Lib.hid hB4
    clear hB4 bk4
    go_wp2
    refine bodyPost_ret (v := .tuple #[.agg #[.int .i64 (z : Int), .slice A' k c'], .bool ok]) (by simp [results, Tryz.results48, go_sem, loadCells, y0, y1]) rfl ⟨HB4.out.drew, z, A', k, c', ok, rfl, hz, ?_⟩
    rcases HOC.out with ⟨h1, h2⟩ | ⟨h1, h2⟩
    · exact .inl ⟨h1, r, HOK1.out h2, HBA.out.kept HB4.out.drew, HBK2.out⟩
    · exact .inr ⟨h1, (HOK2.out h2).1⟩
end Go.Proofs.YtklngdmpledgeaaGreat.Jo

namespace Go.Proofs.YtklngdmpledgeaaGreat.Jo
open Go.RowKit Go.Shelf Fr
attribute [local go_sem] Oper.semAt_some
variable {β : Type}

/-- What is given: where the frame ends, the record's number, its bytes. -/
abbrev Rc := Nat × Nat × List Int
/-- What counts of frames, where the next number is nx. -/
def cntF : Nat → List Fr → List Rc
  | _, [] => []
  | nx, x :: r => match dec x.2 with
    | none => []
    | some y => if 0 < x.1 ∧ y.1 ≠ nx then [] else (x.1 + x.2.length + 8, y) :: cntF (y.1 + 1) r
def cnt (L : List Int) : List Rc := cntF 0 (allF L)
theorem cntF_none {nx : Nat} {x : Fr} {r : List Fr} (h : dec x.2 = none) : cntF nx (x :: r) = [] := by rw [cntF, h]
theorem cntF_bad {nx : Nat} {x : Fr} {r : List Fr} {y : Nat × List Int} (h : dec x.2 = some y) (h2 : 0 < x.1 ∧ y.1 ≠ nx) : cntF nx (x :: r) = [] := by rw [cntF, h]; exact if_pos h2
theorem cntF_good {nx : Nat} {x : Fr} {r : List Fr} {y : Nat × List Int} (h : dec x.2 = some y) (h2 : ¬ (0 < x.1 ∧ y.1 ≠ nx)) : cntF nx (x :: r) = (x.1 + x.2.length + 8, y) :: cntF (y.1 + 1) r := by rw [cntF, h]; exact if_neg h2
theorem dec_le {l : List Int} {y : Nat × List Int} (h : dec l = some y) : y.1 ≤ 4611686018427387903 := by
  unfold dec at h
  split at h
  · rename_i hc; rw [← Option.some.inj h]; exact hc.2
  · cases h
abbrev ckey (x : Rc) : Int := (x.1 : Int)
abbrev cR (Kx : Nat → Prop) (x : Rc) (v : Value) (W : World) : Prop := ∃ A k c, v = .agg #[.int .i64 (x.2.1 : Int), .slice A k c] ∧ BAt W (.slice A k c) x.2.2 ∧ BK Kx (.slice A k c) x.2.2
theorem cR_put {Kx : Nat → Prop} {x : Rc} {v : Value} {W : World} {k : Nat} {r : Loop} {o : Obj} (h : cR Kx x v W) (hk : W.heap[k]? = some (.loop r)) : cR Kx x v (W.putObj k o) := by
  obtain ⟨A, q, c, h1, h2, h3⟩ := h
  exact ⟨A, q, c, h1, BAt.put h2 hk, h3⟩
theorem counting_any (w : World) (A : Option Addr) (m c : Nat) :
    Calls Tryz.prog 24 #[.slice A m c] w fun e w' => e = .returned (.func (.func 46) #[] #[.pointer (some ⟨w.heap.size, 0, none⟩)]) ∧ w' = w.alloc (.cells #[.slice A m c] 22) := by
  go_enter Tryz.func24, Tryz.ntmps24
  go_wp2
  go_ret
  exact ⟨rfl, rfl⟩
theorem uns_none {w : World} {A : Option Addr} {m c : Nat} {l : List Int} (h : BAt w (.slice A m c) l) (hb : bok l) (hm : m ≤ 1000000) (hd : dec l = none) :
    Calls Tryz.prog 48 #[.slice A m c] w fun e w' => ∃ z A' k c', e = .returned (.tuple #[.agg #[.int .i64 z, .slice A' k c'], .bool false]) ∧ Below w.heap.size w w' := by
  refine (unseal_any w A m c l h hb hm).mono ?_
  rintro e w' ⟨hb, z, A', k, c', ok, rfl, _, (⟨_, r, h2, _, _⟩ | ⟨rfl, _⟩)⟩
  · rw [hd] at h2; cases h2
  · exact ⟨_, A', k, c', rfl, hb⟩
theorem uns_some {w : World} {A : Option Addr} {m c n : Nat} {l r : List Int} (h : BAt w (.slice A m c) l) (hb : bok l) (hm : m ≤ 1000000) (hd : dec l = some (n, r)) :
    Calls Tryz.prog 48 #[.slice A m c] w fun e w' => ∃ A' k c', e = .returned (.tuple #[.agg #[.int .i64 (n : Int), .slice A' k c'], .bool true]) ∧ (BAt w' (.slice A' k c') r ∧ ∀ K, BK K (.slice A m c) l → BK K (.slice A' k c') r) ∧ Below w.heap.size w w' := by
  refine (unseal_any w A m c l h hb hm).mono ?_
  rintro e w' ⟨hb, z, A', k, c', ok, rfl, _, (⟨rfl, r2, h2, h3, h4⟩ | ⟨_, h2⟩)⟩
  · rw [hd] at h2
    cases h2
    exact ⟨A', k, c', rfl, ⟨h3, h4⟩, hb⟩
  · rw [hd] at h2; cases h2
end Go.Proofs.YtklngdmpledgeaaGreat.Jo
