/-
  The contracts of the functions that frames and All give, for rounds that may write blocks of their own. Conditions: at most a thousand bytes.
-/
import Derived.Test.YtjijgoflbjbnfaaGreatVM4
import Derived.Test.YtjijgoflbjbnfaaGreatRows
import Derived.KernelRfl
import Derived.RangeFuncBox
import Derived.Shelf.Abstract
import Derived.Shelf.RegionOpen
import Derived.OwnWalkIn
import Derived.TacticsInMore
import Derived.LoopNIn
import Derived.LoopIn
import Derived.WalkKit
import Derived.WalkSpells
import Derived.WalkLawsBesides
import Derived.Deep.Draws
import Derived.Below
import Derived.Deep.LoopGhost
import Derived.Deep.CutBlock
import Derived.Deep.QuietTactic
import Derived.Deep.RegionLaw
import Derived.Deep.AppendLies
import Derived.BigQuiet
import Derived.Lib.Hide
import Derived.Lib.SliceRun
import Derived.Lib.AppendStr
import Derived.Outline
import Derived.IntWalk
import Derived.Laws.OwnMore
import Derived.Laws.Rows
namespace Go.Proofs.YtjijgoflbjbnfaaGreat.Jo
open Go.RowKit Go.Shelf Fr
attribute [local go_sem] Oper.semAt_some
variable {β : Type}

abbrev fkey (x : Fr) : Int := (x.1 : Int)
abbrev fR (_ : Nat → Prop) (x : Fr) (v : Value) (W : World) : Prop := BAt W v x.2
theorem fR_put {Kx : Nat → Prop} {x : Fr} {v : Value} {W : World} {k : Nat} {r : Loop} {o : Obj} (h : fR Kx x v W) (hk : W.heap[k]? = some (.loop r)) : fR Kx x v (W.putObj k o) := BAt.put h hk
theorem bk_mono {K K' : Nat → Prop} {w : World} {A : Option Addr} {m c : Nat} {l : List Int} (hL : BAt w (.slice A m c) l) (h : BK K (.slice A m c) l) (hk : ∀ k, K k → k < w.heap.size → K' k) : BK K' (.slice A m c) l := fun hp a n c' ha => by
  refine hk _ (h hp a n c' ha) ?_
  obtain ⟨A', c2, h1, h2, h3⟩ := hL
  obtain ⟨g, o, h4, h5, _⟩ := h3 hp
  cases ha; cases h1; cases h4
  exact h5

set_option maxRecDepth 100000 in
set_option maxHeartbeats 4000000 in
theorem frames1_g (n : Nat) (hn : 2 ≤ n) (seen : β → List Fr) (K : β → Nat → Prop) (Bs : Nat) (w : World) (A : Option Addr) (m cap : Nat) (L : List Int) (hBs : w.heap[Bs]? = some (.cells #[.slice A m cap] 32 (0, 0))) (hL : BAt w (.slice A m cap) L) (hb : bok L) (hm : m ≤ 1000) :
    GSeq seen K (fun K => K Bs ∧ BK K (.slice A m cap) L) (fun _ _ => True) fkey fR Fence.wide n Tryz.prog 137 #[.pointer (some ⟨Bs, 0, none⟩)] (allF L) w := by
  intro l J Jx W hW hJ hJx hJK _ hY s0 hs0 h0 hC
  have hn0 : 1 ≤ n := by omega
  have hlm := hL.len.1
  have hcap := hL.len.2
  have HBs := Lib.hid (block_kept hBs hW)
  have HL := Lib.hid (hL.kept hW)
  have HD : Hid (bok L ∧ L.length = m) := ⟨hb, hlm⟩
  have HY := Lib.hid hY
  have HJ := Lib.hid hJ
  have HJK := Lib.hid hJK
  have H0 : Hid (AtP L (seen s0) 0 ∧ J s0 W ∧ W.heap[Bs]? = some (.cells #[.slice A m cap] 32 (0, 0)) ∧ BAt W (.slice A m cap) L ∧ K s0 Bs ∧ BK (K s0) (.slice A m cap) L) := by
    rw [hs0]; exact ⟨AtP.start L, h0, HBs.out, HL.out, hC⟩
  clear hY hL hb hBs hlm hW hJ hJx hJK hC h0 hs0
  refine callsIn_of_wp Tryz.func137 rfl trivial ?_ rfl
  simp only [Tryz.ntmps137, List.size_toArray, List.length_cons, List.length_nil, Nat.reduceAdd, Nat.reduceSub, Array.replicate_succ, Array.replicate_zero, List.push_toArray, List.append_toArray, List.nil_append, List.cons_append]
  gi_wp2
  gi_loopw [3] (fun p wr => ∃ (q : Nat) (s : β), p = .int .i64 (q : Int) ∧ Hid (AtP L (seen s) q ∧ J s wr ∧ wr.heap[Bs]? = some (.cells #[.slice A m cap] 32 (0, 0)) ∧ BAt wr (.slice A m cap) L ∧ K s Bs ∧ BK (K s) (.slice A m cap) L)) (fun p _ => L.length + 1 - (intOf p).toNat)
  case atStart => exact ⟨0, s0, rfl, H0.out⟩
  case round =>
    obtain ⟨q, s, rfl, hinv⟩ := hrel
    have hq : q ≤ m := by rw [← HD.out.2]; exact hinv.out.1.le
    obtain ⟨A', hA', hs⟩ := slice_from A m cap q hq hcap
    have hbs := hinv.out.2.2.1
    have c0 := (block_cell hbs).1
    have hBr : BAt wr (.slice A' (m - q) (cap - q)) (L.drop q) := hinv.out.2.2.2.1.from q hA' hq
    obtain ⟨B, k, N, E, hR⟩ := nx_some (L.drop q)
    have HF := Lib.hid (callsIn_wide (n := n - 1).2 (first_at wr _ (L.drop q) B k N E hBr (bok_drop HD.out.1 q) (by rw [List.length_drop]; have := HD.out.2; omega) hR))
    have HR := Lib.hid hR
    obtain ⟨r1, hr1⟩ : ∃ r1, r1 = m - q := ⟨_, rfl⟩
    obtain ⟨r2, hr2⟩ : ∃ r2, r2 = cap - q := ⟨_, rfl⟩
    rw [← hr1, ← hr2] at hs HF
    have hm9 : q ≤ 1000 := by omega
    clear hBr hR hbs hA' hr1 hr2
    by_cases hE : E = 0
    · have hN : N ≤ 1000 ∧ 8 ≤ N ∧ q + N ≤ m := by
        have h1 : nxE (L.drop q) = 0 := by rw [HR.out.e]; exact hE
        have h2 := nxN_ok h1
        rw [List.length_drop, HR.out.n, HD.out.2] at h2
        omega
      have HX : Hid ((∃ r, allF L = seen s ++ (q, B) :: r) ∧ AtP L (seen s ++ [(q, B)]) (q + N)) := by
        have h1 : nxE (L.drop q) = 0 := by rw [HR.out.e]; exact hE
        have h2 := hinv.out.1.step h1
        rw [HR.out.b, HR.out.n] at h2
        exact ⟨h2.2, h2.1⟩
      subst hE
      have hn1 : N ≤ 1000 := hN.1
      have HN := Lib.hid hN
      clear hN
      gi_wp2_with (refine ⟨trivial, ?_⟩; gi_at_call 138; refine HF.out.mono ?_; rintro e w1 ⟨A1, c1, rfl, ha1, b1⟩
                   obtain ⟨fn, tmps, assign, body, hy, hR⟩ := HY.out s (q, B) (.slice A1 k c1) w1 (own_below HJ.out hinv.out.2.1 b1) ha1 HX.out.1
                   dsimp only [fkey] at hy
                   have HB1 := Lib.hid b1
                   clear ha1 b1)
      refine hR.mono ?_
      rintro e W3 (⟨rfl, hk3, s', hs', hJ3, hgo⟩ | ⟨rfl, _, s', hs', hJx3⟩)
      · have hbs1 := block_kept hinv.out.2.2.1 HB1.out
        have hba1 := hinv.out.2.2.2.1.kept HB1.out
        have hlt1 := (Array.getElem?_eq_some_iff.1 hbs1).1
        have HJ3 : Hid (AtP L (seen s') (q + N) ∧ J s' W3 ∧ W3.heap[Bs]? = some (.cells #[.slice A m cap] 32 (0, 0)) ∧ BAt W3 (.slice A m cap) L ∧ K s' Bs ∧ BK (K s') (.slice A m cap) L) := by
          rw [hs']
          exact ⟨HX.out.2, hJ3, (hk3.2 Bs hinv.out.2.2.2.2.1 hlt1).trans hbs1, hba1.ks hinv.out.2.2.2.2.2 hk3, hgo Bs hinv.out.2.2.2.2.1 hlt1, bk_mono hba1 hinv.out.2.2.2.2.2 hgo⟩
        have hq2 : q + N ≤ 1000 := by have := HN.out; omega
        clear hJ3 hk3 hy hR hinv hbs1 hba1 hlt1 hgo hs'
        gi_wp2
        go_roundw
        case rel => exact ⟨q + N, s', by go_num, HJ3.out⟩
        case measure => simp [intOf]; have := HN.out; have := HD.out.2; omega
      · have HJ3 := Lib.hid hJx3
        have HS := Lib.hid hs'
        clear hJx3 hy hR hs'
        gi_wp2
        refine bodyPost_ret (results_none rfl _ _ _) rfl ?_
        obtain ⟨r, hr⟩ := HX.out.1
        exact ⟨⟨_, rfl⟩, .inr ⟨s', ⟨r, by rw [HS.out, hr]; simp⟩, HJ3.out⟩⟩
    · have hEb : (E != 0) = true := by simp [hE]
      have HE : Hid (allF L = seen s) := hinv.out.1.done (by rw [HR.out.e]; exact hE)
      gi_wp2_with (refine ⟨trivial, ?_⟩; gi_at_call 138; refine HF.out.mono ?_; rintro e w1 ⟨A1, c1, rfl, ha1, b1⟩
                   have HJ1 := Lib.hid (own_below HJ.out hinv.out.2.1 b1)
                   clear ha1 b1)
      refine ⟨fun _ h => (by cases h), ?_⟩
      gi_wp2
      refine bodyPost_ret (results_none rfl _ _ _) rfl ?_
      exact ⟨⟨_, rfl⟩, .inl ⟨s, HE.out.symm, HJ1.out⟩⟩
end Go.Proofs.YtjijgoflbjbnfaaGreat.Jo

namespace Go.Proofs.YtjijgoflbjbnfaaGreat.Jo
open Go.RowKit Go.Shelf Fr
attribute [local go_sem] Oper.semAt_some
variable {β : Type}

abbrev aR (Kx : Nat → Prop) (x : Fr) (v : Value) (W : World) : Prop := BAt W v x.2 ∧ BK Kx v x.2
theorem aR_put {Kx : Nat → Prop} {x : Fr} {v : Value} {W : World} {k : Nat} {r : Loop} {o : Obj} (h : aR Kx x v W) (hk : W.heap[k]? = some (.loop r)) : aR Kx x v (W.putObj k o) := ⟨BAt.put h.1 hk, h.2⟩
theorem clone_atK (w : World) (A : Option Addr) (n c : Nat) (l : List Int) (h : BAt w (.slice A n c) l) (hn : n ≤ 2000000) :
    Calls Tryz.prog 38 #[.slice A n c] w fun e w' => ∃ A' c', e = .returned (.slice A' n c') ∧ (BAt w' (.slice A' n c') l ∧ BK (fun k => w.heap.size ≤ k) (.slice A' n c') l) ∧ Below w.heap.size w w' := by
  have hl := h.len.1
  refine (clone_any w _ l h (by omega)).mono fun e w' ⟨u, h1, h2, h3⟩ => ?_
  have h4 := BAt.of_own h2
  obtain ⟨A', c', h5, _⟩ := id h4
  rw [hl] at h5
  subst h5
  refine ⟨A', c', h1, ⟨h4, fun _ a n c ha => ?_⟩, h3⟩
  cases ha
  exact (h2.lt a.block rfl).1
set_option maxRecDepth 100000 in
set_option maxHeartbeats 4000000 in
theorem all1_g (n : Nat) (hn : 6 ≤ n) (seen : β → List Fr) (K : β → Nat → Prop) (Bs : Nat) (w : World) (A : Option Addr) (m cap : Nat) (L : List Int) (hBs : w.heap[Bs]? = some (.cells #[.slice A m cap] 32 (0, 0))) (hL : BAt w (.slice A m cap) L) (hb : bok L) (hm : m ≤ 1000) :
    GSeq seen K (fun K => K Bs ∧ BK K (.slice A m cap) L) (fun _ _ => True) fkey aR Fence.wide n Tryz.prog 110 #[.pointer (some ⟨Bs, 0, none⟩)] (allF L) w := by
  intro l J Jx W hW hJ hJx hJK _ hY s0 hs0 h0 hC
  have hn0 : 1 ≤ n := by omega
  have hn1 : 1 ≤ n - 1 := by omega
  have hlm := hL.len.1
  have hbs := block_kept hBs hW
  have hlw : Bs < W.heap.size := (Array.getElem?_eq_some_iff.1 hbs).1
  have c0 := (block_cell hbs).1
  have HL := Lib.hid (hL.kept hW)
  have HD : Hid (bok L ∧ L.length = m ∧ BK (K s0) (.slice A m cap) L) := ⟨hb, hlm, hC.2⟩
  have HY := Lib.hid hY
  have HJ := Lib.hid hJ
  have HJx := Lib.hid hJx
  have HJK := Lib.hid hJK
  have H0 := Lib.hid h0
  have HS0 := Lib.hid hs0
  clear hY hL hb hBs hlm hW hJ hJx h0 hbs hC hs0 hJK
  refine callsIn_of_wp_marks Tryz.func110 rfl trivial ?_ rfl
  simp only [Tryz.ntmps110, List.size_toArray, List.length_cons, List.length_nil, Nat.reduceAdd, Nat.reduceSub, Array.replicate_succ, Array.replicate_zero, List.push_toArray, List.append_toArray, List.nil_append, List.cons_append]
  gi_wp2_with (refine ⟨trivial, ?_⟩; gi_at_call 111; refine (callsIn_wide.2 (frames_any _ _ _ _)).mono ?_; rintro e w' ⟨rfl, rfl⟩)
  obtain ⟨W0, hW0⟩ : ∃ W0, W0 = (W.alloc (.cells #[.func (.yield l) #[] #[]] 139)).alloc (.cells #[.slice A m cap] 32) := ⟨_, rfl⟩
  have b1 : Boxed W0 W.heap.size 139 (.func (.yield l) #[] #[]) := by rw [hW0]; exact (Boxed.new W _ _).alloc _
  have b2 : W0.heap[W.heap.size + 1]? = some (.cells #[.slice A m cap] 32 (0, 0)) := by
    rw [hW0]
    have := block_new (W.alloc (.cells #[.func (.yield l) #[] #[]] 139)) (.cells #[.slice A m cap] 32)
    rw [World.size_alloc] at this
    exact this
  have hB0 : Below W.heap.size W W0 := by rw [hW0]; exact ((Below.refl _ W).alloc (Nat.le_refl _) _).alloc (by simp) _
  have hsz : W0.heap.size = W.heap.size + 1 + 1 := by rw [hW0]; simp
  rw [← hW0]
  clear hW0
  have hK0 := HJK.out s0 W H0.out
  refine' range_g (fun h => fR_put h) rfl (by omega) (gf := 137) (lb := #[.pointer (some ⟨W.heap.size + 1, 0, none⟩)]) rfl trivial (enters_of Tryz.func137 (by kernel_rfl) rfl)
    (B := W.heap.size) (by omega)
    (frames1_g _ (by omega) seen K (W.heap.size + 1) W0 A m cap L b2 (HL.out.kept hB0) HD.out.1 hm) rfl
    (fun s W' => J s W' ∧ Boxed W' W.heap.size 139 (.func (.yield l) #[] #[]) ∧ K s W.heap.size) (fun c s W' => c = .ret ∧ Jx s W')
    (fun s X Y row hs hg hr => ⟨ownFrom_mono HJ.out (by omega) s X Y row hs.1 hg hr, (Own.from (boxed_own _ _ (fun (_ : β) => Value.func (.yield l) #[] #[])) _) s X Y row hs.2.1 hg hr, hs.2.2⟩) (fun c s X Y row hs hg hr => ⟨hs.1, ownFrom_mono HJx.out (by omega) s X Y row hs.2 hg hr⟩)
    (fun s W' h => HJK.out s W' h.1) (fun _ _ _ _ _ _ => trivial) s0 HS0.out ⟨own_below HJ.out H0.out hB0, b1, hK0 _ (Nat.le_refl _)⟩ ⟨hK0 _ (by omega), HD.out.2.2⟩ _ ?assign ?body ?done ?stop
  case assign =>
    intro l x v W K hK
    gi_wp2
    exact hK
  case body =>
    rintro l2 s ⟨q, B⟩ v W1 ⟨hJ1, hbx, hkx⟩ hbat ⟨r, hr⟩
    obtain ⟨h1, h2, h3⟩ := AtP.fit hr
    have h2' : B.length + 8 ≤ L.length := h2
    have hBl : B.length ≤ 2000000 := by have := HD.out.2.1; omega
    obtain ⟨k, hk⟩ : ∃ k, k = B.length := ⟨_, rfl⟩
    obtain ⟨A5, c5, hv, _⟩ := id hbat
    have hv2 : v = .slice A5 k c5 := by rw [hk]; exact hv
    subst hv2
    have hcl := fun w0 (hw : Below W1.heap.size W1 w0) => clone_atK w0 A5 k c5 B (hbat.kept hw) (by omega)
    have d1 := hbx.cell
    have HC := Lib.hid hcl
    have HR : Hid (∃ r, allF L = seen s ++ (q, B) :: r) := ⟨r, hr⟩
    have HJ1 := Lib.hid hJ1
    have HBX := Lib.hid hbx
    have HKX := Lib.hid hkx
    have HY2 : Hid (∀ v w2, Below W1.heap.size W1 w2 → aR (K s) (q, B) v w2 → YieldAt Fence.wide (n - 1 - 1 - 1) Tryz.prog l #[.int .i64 (q : Int), v] w2 fun e W' => ∃ b : Bool, e = .returned (.bool b) ∧ (b = true → KS (K s) w2 W' ∧ ∃ s', seen s' = seen s ++ [(q, B)] ∧ J s' W' ∧ Goes (K s) (K s') w2) ∧ (b = false → KS (fun k => K s k ∧ W.heap.size ≤ k) w2 W' ∧ ∃ s', seen s' = seen s ++ [(q, B)] ∧ Jx s' W')) := fun v w2 hw hv => by
      obtain ⟨fn, tmps, assign, body, hy, hR⟩ := yield_any (n - 1 - 1 - 1) (HY.out s (q, B) v w2 (own_below HJ.out HJ1.out hw) hv HR.out)
      exact ⟨fn, tmps, assign, body, hy, hR.mono fun e W' h => by
        rcases h with ⟨h1, h2⟩ | ⟨h1, h2⟩
        · exact ⟨true, h1, fun _ => h2, fun h => (by cases h)⟩
        · exact ⟨false, h1, fun h => (by cases h), fun _ => h2⟩⟩
    clear h1 h2 h2' h3 hBl hbat hr hJ1 hcl hv hk hbx hkx
    have hmx : Tryz.prog.follows .mixedOrders = true := by kernel_rfl
    have hdp : 1 ≤ n - 1 - 1 := by omega
    have hBl : W.heap.size < W1.heap.size := World.block_lt_of_cell? _ _ d1
    gi_wp2
    gi_region_with_o (first
      | (refine ⟨trivial, ?_⟩; gi_at_call 38; refine (CallsIn.inRound l2 (callsIn_wide.2 (HC.out _ (Below.refl _ _).drew))).mono ?_; rintro e w2 ⟨A6, c6, rfl, ho, hb2⟩
         have d2 : w2.cell? ⟨W.heap.size, 0, none⟩ = some (.func (.yield l) #[] #[]) := (hb2.cell (p := ⟨W.heap.size, 0, none⟩) hBl).trans d1
         have hb3 : Below W1.heap.size W1 w2 := (Below.refl _ _).drew.trans hb2
         obtain ⟨fn, tmps, assign, body, hy, hR⟩ := HY2.out (.slice A6 k c6) w2 hb3 ⟨ho.1, fun hp a n c ha => HJK.out s W1 HJ1.out _ (ho.2 hp a n c ha)⟩
         have HB3 := Lib.hid hb3
         clear ho hb2 hb3)
      | (refine hR.mono ?_; rintro e W3 ⟨b, rfl, hb4, hb5⟩; have H4 := Lib.hid hb4; have H5 := Lib.hid hb5; clear hb4 hb5))
    all_goals
      cases b
      · have G := Lib.hid (H5.out rfl)
        clear H4 H5
        gi_wp2
        obtain ⟨g1, s', g2, g3⟩ := G.out
        exact ⟨(KS.of_below HB3.out).trans g1, s', g2, rfl, g3⟩
      · have G := Lib.hid (H4.out rfl)
        clear H4 H5
        gi_wp2
        obtain ⟨g1, s', g2, g3, g4⟩ := G.out
        have hk4 := (KS.of_below (K := K s) HB3.out).trans g1
        exact ⟨hk4, s', g2, ⟨g3, (hk4.2 _ HKX.out hBl).trans HBX.out, g4 _ HKX.out (Nat.lt_of_lt_of_le hBl HB3.out.size)⟩, fun k hk hl => g4 k hk (Nat.lt_of_lt_of_le hl HB3.out.size)⟩
  case done =>
    rintro D s W3 hD hs ⟨hJ3, hbx, _⟩ hK
    gi_wp2
    refine ⟨by simp, .inl ⟨_, _, rfl, run_takeDeferred hK, ?_⟩⟩
    exact ⟨_, results_none rfl _ _ _, ⟨_, rfl⟩, .inl ⟨s, hs, HJ.out.putObj _ hJ3 (by omega) hK rfl⟩⟩
  case stop =>
    rintro D c s r W3 hD hS ⟨rfl, hJx3⟩ hK
    gi_wp2
    refine ⟨by simp, .inl ⟨_, _, rfl, run_takeDeferred hK, ?_⟩⟩
    exact ⟨_, results_none rfl _ _ _, ⟨_, rfl⟩, .inr ⟨s, ⟨r, hS⟩, HJx.out.putObj _ hJx3 (by omega) hK rfl⟩⟩
end Go.Proofs.YtjijgoflbjbnfaaGreat.Jo

namespace Go.Proofs.YtjijgoflbjbnfaaGreat.Oc
open Go.RowKit

theorem below_drewN {B : Nat} {a w : World} (h : Below B a w) (n : Nat) : Below B a (w.drewN n) := ⟨h.os, h.tape, h.output, h.size, h.block⟩
theorem ret_int {k : IntKind} {a b : Int} (h : a = b) : Ending.returned (.int k a) = .returned (.int k b) := by rw [h]
theorem ret_bool {a b : Bool} (h : a = b) : Ending.returned (.bool a) = .returned (.bool b) := by rw [h]
def bv (l : List Int) : List Value := l.map (Value.int .u8)
theorem bv_len (l : List Int) : (bv l).length = l.length := by simp [bv]
theorem bv_one (l : List Int) : ∀ u ∈ bv l, u.oneCell' = true := fun u h => by
  obtain ⟨x, _, rfl⟩ := List.mem_map.1 h; rfl
theorem bv_get {l : List Int} {j : Nat} {u : Value} (h : (bv l)[j]? = some u) : u = .int .u8 (l.getD j 0) := by
  unfold bv at h
  rw [List.getElem?_map] at h
  obtain ⟨x, hx, rfl⟩ := Option.map_eq_some_iff.1 h
  simp [List.getD, hx]
theorem bv_getD {l : List Int} {j : Nat} (h : j < l.length) : (bv l)[j]? = some (.int .u8 (l.getD j 0)) := by
  simp [bv, List.getD, List.getElem?_eq_getElem h]
theorem bv_app (l m : List Int) : bv (l ++ m) = bv l ++ bv m := by simp [bv]

theorem block_kept {W w' : World} {b : Nat} {o : Obj} (hb : W.heap[b]? = some o) (hcl : Below W.heap.size W w') : w'.heap[b]? = some o :=
  (hcl.block b (Array.getElem?_eq_some_iff.1 hb).1).trans hb
theorem block_new (w : World) (o : Obj) : (w.alloc o).heap[w.heap.size]? = some o := heap_alloc_new w o
theorem block_old {w : World} {b : Nat} {x : Obj} (h : w.heap[b]? = some x) (o : Obj) : (w.alloc o).heap[b]? = some x := by
  rw [Below.heap_alloc w o b (Array.getElem?_eq_some_iff.1 h).1]; exact h
theorem block_set {w : World} {b : Nat} {x : Obj} (h : w.heap[b]? = some x) {p : Addr} (hne : b ≠ p.block) (u : Value) : (w.setCell p u).heap[b]? = some x :=
  (Below.heap_setCell w p u b hne).trans h
theorem block_cell {w : World} {b : Nat} {x : Value} {t : TypeId} (h : w.heap[b]? = some (.cells #[x] t (0, 0))) : w.cell? ⟨b, 0, none⟩ = some x ∧ w.frozen? ⟨b, 0, none⟩ = false :=
  ⟨by simp [World.cell?, h], by simp [World.frozen?, h]⟩
theorem block_put {w : World} {b : Nat} {x : Value} {t : TypeId} (h : w.heap[b]? = some (.cells #[x] t (0, 0))) (u : Value) : (w.setCell ⟨b, 0, none⟩ u).heap[b]? = some (.cells #[u] t (0, 0)) := by
  simp only [World.setCell, Array.getElem?_modify, if_true]; rw [h]; rfl
theorem block_cell2 {w : World} {b : Nat} {x y : Value} {t : TypeId} (h : w.heap[b]? = some (.cells #[x, y] t (0, 0))) : (w.cell? ⟨b, 0, none⟩ = some x ∧ w.cell? ⟨b, 1, none⟩ = some y) ∧ w.frozen? ⟨b, 0, none⟩ = false ∧ w.frozen? ⟨b, 1, none⟩ = false :=
  ⟨⟨by simp [World.cell?, h], by simp [World.cell?, h]⟩, by simp [World.frozen?, h], by simp [World.frozen?, h]⟩
theorem block_set1 {w : World} {b : Nat} {x y : Value} {t : TypeId} (h : w.heap[b]? = some (.cells #[x, y] t (0, 0))) (u : Value) : (w.setCell ⟨b, 0, none⟩ u).heap[b]? = some (.cells #[u, y] t (0, 0)) := by
  simp only [World.setCell, Array.getElem?_modify, if_true]; rw [h]; rfl
theorem block_set2 {w : World} {b : Nat} {x y : Value} {t : TypeId} (h : w.heap[b]? = some (.cells #[x, y] t (0, 0))) (u : Value) : (w.setCell ⟨b, 1, none⟩ u).heap[b]? = some (.cells #[x, u] t (0, 0)) := by
  simp only [World.setCell, Array.getElem?_modify, if_true]; rw [h]; rfl
theorem grownBy_alloc (w : World) (o : Obj) (row : Option Nat) : w.grownBy (w.alloc o) row := ⟨rfl, rfl, rfl, by simp, fun k hk _ => Below.heap_alloc _ _ _ hk⟩
theorem grownBy_refl (w : World) (row : Option Nat) : w.grownBy w row := ⟨rfl, rfl, rfl, Nat.le_refl _, fun _ _ _ => rfl⟩
theorem grownBy_drew (w : World) (row : Option Nat) : w.grownBy w.drew row := ⟨rfl, rfl, rfl, Nat.le_refl _, fun _ _ _ => rfl⟩
theorem grownBy_trans {a b c : World} {row : Option Nat} (h : a.grownBy b row) (k : b.grownBy c row) : a.grownBy c row :=
  ⟨k.os.trans h.os, k.tape.trans h.tape, k.output.trans h.output, Nat.le_trans h.size k.size, fun i hi hn => (k.block i (Nat.lt_of_lt_of_le hi h.size) hn).trans (h.block i hi hn)⟩
theorem grownBy_of_below {w w' : World} (row : Option Nat) (h : Below w.heap.size w w') : w.grownBy w' row := ⟨h.os, h.tape, h.output, h.size, fun k hk _ => h.block k hk⟩
theorem grownBy_set (w : World) (p : Addr) (u : Value) : w.grownBy (w.setCell p u) (some p.block) := ⟨rfl, rfl, rfl, by simp [World.setCell], fun k _ hn => Below.heap_setCell _ _ _ _ (fun e => hn (by rw [e]))⟩
theorem below_of_grown {n0 c : Nat} {w w' : World} (h : w.grownBy w' (some c)) (h1 : n0 ≤ c) (h2 : n0 ≤ w.heap.size) : Below n0 w w' := ⟨h.os, h.tape, h.output, h.size, fun k hk => h.block k (by omega) (fun e => by cases e; omega)⟩
theorem block_grown {w w' : World} {b c : Nat} {x : Obj} (h : w.heap[b]? = some x) (hg : w.grownBy w' (some c)) (hne : b ≠ c) : w'.heap[b]? = some x :=
  (hg.block b (Array.getElem?_eq_some_iff.1 h).1 (fun e => hne (Option.some.inj e))).trans h

/-! ### A writer in memory -/
/-- The writer b has made the mistake er, and has the bytes l in the row v. -/
def WrR (w : World) (b : Nat) (er : Int) (l : List Int) (v : Value) : Prop :=
  w.heap[b]? = some (.cells #[.int .i64 er, v] 146 (0, 0)) ∧ w.ownsRow (b + 1) 5 1 v l.length (bv l) ∧ l.length ≤ 1048576
/-- All but the writer b and its row v is as it was; its row is v' now. -/
structure WFr (b : Nat) (v v' : Value) (w w' : World) : Prop where
  os : w'.os = w.os
  tape : w'.tape = w.tape
  output : w'.output = w.output
  size : w.heap.size ≤ w'.heap.size
  block : ∀ k, k < w.heap.size → k ≠ b → v.ownBlock ≠ some k → w'.heap[k]? = w.heap[k]?
  own : ∀ g, v'.ownBlock = some g → v.ownBlock = some g ∨ w.heap.size ≤ g
theorem WFr.refl (b : Nat) (v : Value) (w : World) : WFr b v v w w := ⟨rfl, rfl, rfl, Nat.le_refl _, fun _ _ _ _ => rfl, fun _ h => .inl h⟩
theorem WFr.trans {b : Nat} {v v1 v2 : Value} {w w1 w2 : World} (h : WFr b v v1 w w1) (k : WFr b v1 v2 w1 w2) : WFr b v v2 w w2 :=
  ⟨k.os.trans h.os, k.tape.trans h.tape, k.output.trans h.output, Nat.le_trans h.size k.size,
    fun i hi hb hv => (k.block i (Nat.lt_of_lt_of_le hi h.size) hb (fun e => by rcases h.own i e with h1 | h1; exact hv h1; omega)).trans (h.block i hi hb hv),
    fun g hg => by
      rcases k.own g hg with h1 | h1
      · exact h.own g h1
      · exact .inr (Nat.le_trans h.size h1)⟩
theorem WFr.of_below {b : Nat} {v : Value} {w w' : World} (h : Below w.heap.size w w') : WFr b v v w w' := ⟨h.os, h.tape, h.output, h.size, fun k hk _ _ => h.block k hk, fun _ h => .inl h⟩
theorem WFr.below {n0 b : Nat} {er : Int} {l : List Int} {v v' : Value} {w w' : World} (h : WFr b v v' w w') (hw : WrR w b er l v) (h1 : n0 ≤ b) : Below n0 w w' :=
  ⟨h.os, h.tape, h.output, h.size, fun k hk => h.block k (by have := (Array.getElem?_eq_some_iff.1 hw.1).1; omega) (by omega) (fun e => by have := (hw.2.1.lt k e).1; omega)⟩
theorem WrR.lt {w : World} {b : Nat} {er : Int} {l : List Int} {v : Value} (h : WrR w b er l v) : b < w.heap.size := (Array.getElem?_eq_some_iff.1 h.1).1
theorem ownsRow_kept {w w' : World} {base : Nat} {e : TypeId} {size n : Nat} {v : Value} {xs : List Value} (h : w.ownsRow base e size v n xs) (hk : ∀ g, v.ownBlock = some g → w'.heap[g]? = w.heap[g]?) : w'.ownsRow base e size v n xs := by
  obtain ⟨h1, h2 | ⟨g, cap, cur, h2, h3, h4, h5⟩⟩ := h
  · exact ⟨h1, .inl h2⟩
  · exact ⟨h1, .inr ⟨g, cap, cur, h2, h3, (hk g (by rw [h2]; rfl)).trans h4, h5⟩⟩
theorem ownsRow_base {w : World} {base base' : Nat} {e : TypeId} {size n : Nat} {v : Value} {xs : List Value} (h : w.ownsRow base e size v n xs) (hb : base' ≤ base) : w.ownsRow base' e size v n xs := by
  obtain ⟨h1, h2 | ⟨g, cap, cur, h2, h3, h4, h5⟩⟩ := h
  · exact ⟨h1, .inl h2⟩
  · exact ⟨h1, .inr ⟨g, cap, cur, h2, Nat.le_trans hb h3, h4, h5⟩⟩
theorem WrR.below {w w' : World} {b : Nat} {er : Int} {l : List Int} {v : Value} (h : WrR w b er l v) (hb : Below w.heap.size w w') : WrR w' b er l v :=
  ⟨block_kept h.1 hb, ownsRow_kept h.2.1 (fun g hg => hb.block g (h.2.1.lt g hg).2), h.2.2⟩
/-- What a writer's call leaves. -/
def WrTo (b : Nat) (v : Value) (w : World) (er : Int) (l : List Int) (w' : World) : Prop := ∃ v', WrR w' b er l v' ∧ WFr b v v' w w'
theorem WrTo.trans {b : Nat} {v v1 : Value} {w w1 w2 : World} {er : Int} {l : List Int} (h : WFr b v v1 w w1) (k : WrTo b v1 w1 er l w2) : WrTo b v w er l w2 := by
  obtain ⟨v', h1, h2⟩ := k
  exact ⟨v', h1, h.trans h2⟩
theorem WrTo.same {b : Nat} {v : Value} {w w' : World} {er : Int} {l : List Int} (h : WrR w b er l v) (hb : Below w.heap.size w w') : WrTo b v w er l w' := ⟨v, h.below hb, .of_below hb⟩
/-- The mistake is set. -/
theorem wr_set1 {w : World} {b : Nat} {er : Int} {l : List Int} {v : Value} (h : WrR w b er l v) (x : Int) : WrR (w.setCell ⟨b, 0, none⟩ (.int .i64 x)) b x l v ∧ WFr b v v w (w.setCell ⟨b, 0, none⟩ (.int .i64 x)) :=
  ⟨⟨block_set1 h.1 _, ownsRow_kept h.2.1 (fun g hg => Below.heap_setCell _ _ _ _ (by have := (h.2.1.lt g hg).1; show g ≠ b; omega)), h.2.2⟩,
    ⟨rfl, rfl, rfl, by simp [World.setCell], fun k _ hb _ => Below.heap_setCell _ _ _ _ hb, fun _ h => .inl h⟩⟩
/-- No bytes any more. -/
theorem wr_clear {w : World} {b : Nat} {er : Int} {l : List Int} {v : Value} (h : WrR w b er l v) : WrR (w.setCell ⟨b, 1, none⟩ (.slice none 0 0)) b er [] (.slice none 0 0) ∧ WFr b v (.slice none 0 0) w (w.setCell ⟨b, 1, none⟩ (.slice none 0 0)) :=
  ⟨⟨block_set2 h.1 _, World.ownsRow_nil _ _ _ _, by simp⟩, ⟨rfl, rfl, rfl, by simp [World.setCell], fun k _ hb _ => Below.heap_setCell _ _ _ _ hb, fun g h => by simp [Value.ownBlock] at h⟩⟩
/-- The row was grown, and is stored. -/
theorem wr_grown {w w1 : World} {b : Nat} {er : Int} {l bs : List Int} {v v' : Value} (h : WrR w b er l v) (hown : w1.ownsRow (b + 1) 5 1 v' (l.length + bs.length) (bv l ++ bv bs)) (hg : w.grownBy w1 v.ownBlock) (hn : v' = .slice none 0 0 ∨ v'.ownBlock = v.ownBlock ∨ ∃ g, v'.ownBlock = some g ∧ w.heap.size ≤ g)
    (hl : l.length + bs.length ≤ 1048576) : WrR (w1.setCell ⟨b, 1, none⟩ v') b er (l ++ bs) v' ∧ WFr b v v' w (w1.setCell ⟨b, 1, none⟩ v') := by
  have hb : w1.heap[b]? = some (.cells #[.int .i64 er, v] 146 (0, 0)) := (hg.block b h.lt (fun e => by have := (h.2.1.lt b e.symm).1; omega)).trans h.1
  refine ⟨⟨block_set2 hb _, ?_, by simpa using hl⟩, ⟨hg.os, hg.tape, hg.output, Nat.le_trans hg.size (by simp [World.setCell]), fun k hk hb hv => ?_, fun g h2 => ?_⟩⟩
  · rw [List.length_append, bv_app]
    exact ownsRow_kept hown (fun g hg => Below.heap_setCell _ _ _ _ (by have := (hown.lt g hg).1; show g ≠ b; omega))
  · rw [Below.heap_setCell _ _ _ _ hb]
    exact hg.block k hk (fun e => hv e.symm)
  · rcases hn with h3 | h3 | ⟨g2, h3, h4⟩
    · rw [h3] at h2; simp [Value.ownBlock] at h2
    · exact .inl (h3 ▸ h2)
    · rw [h3] at h2; cases h2; exact .inr h4

/-! ### A string's bytes behind a row -/
def sb (s : ByteArray) : List Int := s.data.toList.map fun b => (b.toNat : Int)
theorem sb_len (s : ByteArray) : (sb s).length = s.size := by simp [sb]
theorem bv_sb (s : ByteArray) : Lib.strCells s = bv (sb s) := by simp [Lib.strCells, bv, sb]
theorem u8Inf : (Tryz.prog.info? 5).map (fun i => (i.zero, i.size, i.bytes)) = some (some (.int .u8 0), 1, 1) := by kernel_rfl
theorem app_str (w : World) (base : Nat) (v : Value) (l : List Int) (hown : w.ownsRow base 5 1 v l.length (bv l)) (s : ByteArray) (hb : l.length + s.size ≤ 1048576) (hbase : base ≤ w.heap.size) :
    ∃ v' w', (Builtin.append_ #[32, 9] 32 #[v, .string s]).run Tryz.prog w = .ok v' w' ∧ w'.ownsRow base 5 1 v' (l.length + (sb s).length) (bv l ++ bv (sb s)) ∧ w.grownBy w' v.ownBlock ∧
      (v' = .slice none 0 0 ∨ v'.ownBlock = v.ownBlock ∨ ∃ g, v'.ownBlock = some g ∧ w.heap.size ≤ g) := by
  obtain ⟨i0, hi0, hz0, hz1, hz2⟩ := info_parts u8Inf
  obtain ⟨v', w', hr, h1, h2, h3⟩ := Lib.run_append_own_string (P := Tryz.prog) w base 32 9 32 5 i0 Tryz.underlying32 Tryz.underlying9 hi0 hz0 hz1 hz2 v l.length (bv l) hown s (by unfold maxLen; omega) (by omega) hbase
  refine ⟨v', w', hr, by rw [sb_len, ← bv_sb]; exact h1, h2, ?_⟩
  rcases hown.2 with ⟨rfl, h0⟩ | ⟨g, cap, cur, rfl, _, hg, hnc, hcm, hcs, _⟩
  · by_cases hm : s.size = 0
    · exact .inl (h3.2 ⟨rfl, hm⟩)
    · have hr2 := run_append_nil_string (P := Tryz.prog) w 32 9 32 5 i0 (.int .u8 0) Tryz.underlying32 Tryz.underlying9 hi0 hz0 s (by omega) (by omega) (by rw [hz2]; omega)
      rw [hr] at hr2
      simp only [Result.ok.injEq] at hr2
      exact .inr (.inr ⟨w.heap.size, by rw [hr2.1]; rfl, Nat.le_refl _⟩)
  · by_cases hroom : l.length + s.size ≤ cap
    · have hr2 := Lib.run_append_room_string (P := Tryz.prog) w 32 9 32 5 i0 Tryz.underlying32 Tryz.underlying9 hi0 hz1 g l.length cap cur hg s hroom (by omega)
      rw [hr] at hr2
      simp only [Result.ok.injEq] at hr2
      exact .inr (.inl (by rw [hr2.1]; rfl))
    · have hr2 := Lib.run_append_grow_string (P := Tryz.prog) w 32 9 32 5 i0 (.int .u8 0) Tryz.underlying32 Tryz.underlying9 hi0 hz0 ⟨g, 0, none⟩ l.length cap (bv l) (by rw [hz1, bv_len]; omega) (hown.cells (g := g) rfl) s (by omega) (by omega) (by rw [hz2]; exact growslice_fits (by omega) (by omega))
      rw [hr] at hr2
      simp only [Result.ok.injEq] at hr2
      exact .inr (.inr ⟨w.heap.size, by rw [hr2.1]; rfl, Nat.le_refl _⟩)

/-! ### The mistake -/
set_option maxRecDepth 100000 in
theorem failed_no (w : World) (b : Nat) (h : w.cell? ⟨b, 0, none⟩ = some (.int .i64 0)) : Calls Tryz.prog 143 #[.pointer (some ⟨b, 0, none⟩)] w fun e w' => e = .returned (.bool false) ∧ w = w' := by
  go_enter Tryz.func143, Tryz.ntmps143
  go_wp2
  go_ret
  exact ⟨rfl, rfl⟩
set_option maxRecDepth 100000 in
theorem failed_yes (w : World) (b : Nat) (er : Int) (h0 : ¬ er = 0) (h : w.cell? ⟨b, 0, none⟩ = some (.int .i64 er)) : Calls Tryz.prog 143 #[.pointer (some ⟨b, 0, none⟩)] w fun e w' => e = .returned (.bool true) ∧ w = w' := by
  go_enter Tryz.func143, Tryz.ntmps143
  go_wp2
  go_ret
  simp_all
set_option maxRecDepth 100000 in
theorem fail_no (w : World) (b : Nat) (er x : Int) (h0 : ¬ er = 0) (h : w.cell? ⟨b, 0, none⟩ = some (.int .i64 er)) : Calls Tryz.prog 142 #[.pointer (some ⟨b, 0, none⟩), .int .i64 x] w fun e w' => e = .returned (.tuple #[]) ∧ w = w' := by
  go_enter Tryz.func142, Tryz.ntmps142
  go_wp2_with (go_at_call 143; refine (failed_yes _ _ _ h0 h).mono ?_; rintro e w1 ⟨rfl, rfl⟩)
  go_end0
  exact ⟨rfl, rfl⟩
set_option maxRecDepth 100000 in
theorem fail_set (w : World) (b : Nat) (x : Int) (h : w.cell? ⟨b, 0, none⟩ = some (.int .i64 0)) (hf : w.frozen? ⟨b, 0, none⟩ = false) : Calls Tryz.prog 142 #[.pointer (some ⟨b, 0, none⟩), .int .i64 x] w fun e w' => e = .returned (.tuple #[]) ∧ w' = w.setCell ⟨b, 0, none⟩ (.int .i64 x) := by
  go_enter Tryz.func142, Tryz.ntmps142
  go_wp2_with (go_at_call 143; refine (failed_no _ _ h).mono ?_; rintro e w1 ⟨rfl, rfl⟩)
  go_end0
  exact ⟨rfl, rfl⟩
end Go.Proofs.YtjijgoflbjbnfaaGreat.Oc
