/-
  The contracts of the functions that frames and All give, for rounds that may write blocks of their own. Conditions: at most a thousand bytes.
-/
import Derived.Test.YtffeinbbgfogoaaJM3
import Derived.Test.YtffeinbbgfogoaaJM4
namespace Go.Proofs.Ytffeinbbgfogoaa.Jo
open Go.RowKit Go.Shelf Fr
attribute [local go_sem] Oper.semAt_some
variable {β : Type}

abbrev fkey (x : Fr) : Int := (x.1 : Int)
abbrev fR (_ : Nat → Prop) (x : Fr) (v : Value) (W : World) : Prop := BAt W v x.2
theorem fR_put {Kx : Nat → Prop} {x : Fr} {v : Value} {W : World} {k : Nat} {r : Loop} {o : Obj} (h : fR Kx x v W) (hk : W.heap[k]? = some (.loop r)) : fR Kx x v (W.putObj k o) := BAt.put h hk
theorem bk_mono {K K' : Nat → Prop} {w : World} {A : Option Addr} {m c : Nat} {l : List Int} (hL : BAt w (.slice A m c) l) (h : BK K (.slice A m c) l) (hk : ∀ k, K k → k < w.heap.size → K' k) : BK K' (.slice A m c) l := fun hp a n c' ha => by
  refine hk _ (h hp a n c' ha) ?_
  obtain ⟨A', c2, h1, h2, h3⟩ := hL
  obtain ⟨g, o, h4, h5, _⟩ := h3 hp
  cases ha; cases h1; cases h4
  exact h5

set_option maxRecDepth 100000 in
set_option maxHeartbeats 4000000 in
theorem frames1_g (n : Nat) (hn : 2 ≤ n) (seen : β → List Fr) (K : β → Nat → Prop) (Bs : Nat) (w : World) (A : Option Addr) (m cap : Nat) (L : List Int) (hBs : w.heap[Bs]? = some (.cells #[.slice A m cap] 32 (0, 0))) (hL : BAt w (.slice A m cap) L) (hb : bok L) (hm : m ≤ 1000) :
    GSeq seen K (fun K => K Bs ∧ BK K (.slice A m cap) L) (fun _ _ => True) fkey fR Fence.wide n Try.prog 132 #[.pointer (some ⟨Bs, 0, none⟩)] (allF L) w := by
  intro l J Jx W hW hJ hJx hJK _ hY s0 hs0 h0 hC
  have hn0 : 1 ≤ n := by omega
  have hlm := hL.len.1
  have hcap := hL.len.2
  have HBs := Lib.hid (block_kept hBs hW)
  have HL := Lib.hid (hL.kept hW)
  have HD : Hid (bok L ∧ L.length = m) := ⟨hb, hlm⟩
  have HY := Lib.hid hY
  have HJ := Lib.hid hJ
  have HJK := Lib.hid hJK
  have H0 : Hid (AtP L (seen s0) 0 ∧ J s0 W ∧ W.heap[Bs]? = some (.cells #[.slice A m cap] 32 (0, 0)) ∧ BAt W (.slice A m cap) L ∧ K s0 Bs ∧ BK (K s0) (.slice A m cap) L) := by
    rw [hs0]; exact ⟨AtP.start L, h0, HBs.out, HL.out, hC⟩
  clear hY hL hb hBs hlm hW hJ hJx hJK hC h0 hs0
  refine callsIn_of_wp Try.func132 rfl trivial ?_ rfl
  simp only [Try.ntmps132, List.size_toArray, List.length_cons, List.length_nil, Nat.reduceAdd, Nat.reduceSub, Array.replicate_succ, Array.replicate_zero, List.push_toArray, List.append_toArray, List.nil_append, List.cons_append]
  gi_wp2
  gi_loopw [3] (fun p wr => ∃ (q : Nat) (s : β), p = .int .i64 (q : Int) ∧ Hid (AtP L (seen s) q ∧ J s wr ∧ wr.heap[Bs]? = some (.cells #[.slice A m cap] 32 (0, 0)) ∧ BAt wr (.slice A m cap) L ∧ K s Bs ∧ BK (K s) (.slice A m cap) L)) (fun p _ => L.length + 1 - (intOf p).toNat)
  case atStart => exact ⟨0, s0, rfl, H0.out⟩
  case round =>
    obtain ⟨q, s, rfl, hinv⟩ := hrel
    have hq : q ≤ m := by rw [← HD.out.2]; exact hinv.out.1.le
    obtain ⟨A', hA', hs⟩ := slice_from A m cap q hq hcap
    have hbs := hinv.out.2.2.1
    have c0 := (block_cell hbs).1
    have hBr : BAt wr (.slice A' (m - q) (cap - q)) (L.drop q) := hinv.out.2.2.2.1.from q hA' hq
    obtain ⟨B, k, N, E, hR⟩ := nx_some (L.drop q)
    have HF := Lib.hid (callsIn_wide (n := n - 1).2 (first_at wr _ (L.drop q) B k N E hBr (bok_drop HD.out.1 q) (by rw [List.length_drop]; have := HD.out.2; omega) hR))
    have HR := Lib.hid hR
    obtain ⟨r1, hr1⟩ : ∃ r1, r1 = m - q := ⟨_, rfl⟩
    obtain ⟨r2, hr2⟩ : ∃ r2, r2 = cap - q := ⟨_, rfl⟩
    rw [← hr1, ← hr2] at hs HF
    have hm9 : q ≤ 1000 := by omega
    clear hBr hR hbs hA' hr1 hr2
    by_cases hE : E = 0
    · have hN : N ≤ 1000 ∧ 8 ≤ N ∧ q + N ≤ m := by
        have h1 : nxE (L.drop q) = 0 := by rw [HR.out.e]; exact hE
        have h2 := nxN_ok h1
        rw [List.length_drop, HR.out.n, HD.out.2] at h2
        omega
      have HX : Hid ((∃ r, allF L = seen s ++ (q, B) :: r) ∧ AtP L (seen s ++ [(q, B)]) (q + N)) := by
        have h1 : nxE (L.drop q) = 0 := by rw [HR.out.e]; exact hE
        have h2 := hinv.out.1.step h1
        rw [HR.out.b, HR.out.n] at h2
        exact ⟨h2.2, h2.1⟩
      subst hE
      have hn1 : N ≤ 1000 := hN.1
      have HN := Lib.hid hN
      clear hN
      gi_wp2_with (refine ⟨trivial, ?_⟩; gi_at_call 133; refine HF.out.mono ?_; rintro e w1 ⟨A1, c1, rfl, ha1, b1⟩
                   obtain ⟨fn, tmps, assign, body, hy, hR⟩ := HY.out s (q, B) (.slice A1 k c1) w1 (own_below HJ.out hinv.out.2.1 b1) ha1 HX.out.1
                   dsimp only [fkey] at hy
                   have HB1 := Lib.hid b1
                   clear ha1 b1)
      refine hR.mono ?_
      rintro e W3 (⟨rfl, hk3, s', hs', hJ3, hgo⟩ | ⟨rfl, _, s', hs', hJx3⟩)
      · have hbs1 := block_kept hinv.out.2.2.1 HB1.out
        have hba1 := hinv.out.2.2.2.1.kept HB1.out
        have hlt1 := (Array.getElem?_eq_some_iff.1 hbs1).1
        have HJ3 : Hid (AtP L (seen s') (q + N) ∧ J s' W3 ∧ W3.heap[Bs]? = some (.cells #[.slice A m cap] 32 (0, 0)) ∧ BAt W3 (.slice A m cap) L ∧ K s' Bs ∧ BK (K s') (.slice A m cap) L) := by
          rw [hs']
          exact ⟨HX.out.2, hJ3, (hk3.2 Bs hinv.out.2.2.2.2.1 hlt1).trans hbs1, hba1.ks hinv.out.2.2.2.2.2 hk3, hgo Bs hinv.out.2.2.2.2.1 hlt1, bk_mono hba1 hinv.out.2.2.2.2.2 hgo⟩
        have hq2 : q + N ≤ 1000 := by have := HN.out; omega
        clear hJ3 hk3 hy hR hinv hbs1 hba1 hlt1 hgo hs'
        gi_wp2
        go_roundw
        case rel => exact ⟨q + N, s', by go_num, HJ3.out⟩
        case measure => simp [intOf]; have := HN.out; have := HD.out.2; omega
      · have HJ3 := Lib.hid hJx3
        have HS := Lib.hid hs'
        clear hJx3 hy hR hs'
        gi_wp2
        refine bodyPost_ret (results_none rfl _ _ _) rfl ?_
        obtain ⟨r, hr⟩ := HX.out.1
        exact ⟨⟨_, rfl⟩, .inr ⟨s', ⟨r, by rw [HS.out, hr]; simp⟩, HJ3.out⟩⟩
    · have hEb : (E != 0) = true := by simp [hE]
      have HE : Hid (allF L = seen s) := hinv.out.1.done (by rw [HR.out.e]; exact hE)
      gi_wp2_with (refine ⟨trivial, ?_⟩; gi_at_call 133; refine HF.out.mono ?_; rintro e w1 ⟨A1, c1, rfl, ha1, b1⟩
                   have HJ1 := Lib.hid (own_below HJ.out hinv.out.2.1 b1)
                   clear ha1 b1)
      refine ⟨fun _ h => (by cases h), ?_⟩
      gi_wp2
      refine bodyPost_ret (results_none rfl _ _ _) rfl ?_
      exact ⟨⟨_, rfl⟩, .inl ⟨s, HE.out.symm, HJ1.out⟩⟩
end Go.Proofs.Ytffeinbbgfogoaa.Jo

namespace Go.Proofs.Ytffeinbbgfogoaa.Jo
open Go.RowKit Go.Shelf Fr
attribute [local go_sem] Oper.semAt_some
variable {β : Type}

abbrev aR (Kx : Nat → Prop) (x : Fr) (v : Value) (W : World) : Prop := BAt W v x.2 ∧ BK Kx v x.2
theorem aR_put {Kx : Nat → Prop} {x : Fr} {v : Value} {W : World} {k : Nat} {r : Loop} {o : Obj} (h : aR Kx x v W) (hk : W.heap[k]? = some (.loop r)) : aR Kx x v (W.putObj k o) := ⟨BAt.put h.1 hk, h.2⟩
theorem clone_atK (w : World) (A : Option Addr) (n c : Nat) (l : List Int) (h : BAt w (.slice A n c) l) (hn : n ≤ 2000000) :
    Calls Try.prog 55 #[.slice A n c] w fun e w' => ∃ A' c', e = .returned (.slice A' n c') ∧ (BAt w' (.slice A' n c') l ∧ BK (fun k => w.heap.size ≤ k) (.slice A' n c') l) ∧ Below w.heap.size w w' := by
  have hl := h.len.1
  refine (clone_any w _ l h (by omega)).mono fun e w' ⟨u, h1, h2, h3⟩ => ?_
  have h4 := BAt.of_own h2
  obtain ⟨A', c', h5, _⟩ := id h4
  rw [hl] at h5
  subst h5
  refine ⟨A', c', h1, ⟨h4, fun _ a n c ha => ?_⟩, h3⟩
  cases ha
  exact (h2.lt a.block rfl).1
set_option maxRecDepth 100000 in
set_option maxHeartbeats 4000000 in
theorem all1_g (n : Nat) (hn : 6 ≤ n) (seen : β → List Fr) (K : β → Nat → Prop) (Bs : Nat) (w : World) (A : Option Addr) (m cap : Nat) (L : List Int) (hBs : w.heap[Bs]? = some (.cells #[.slice A m cap] 32 (0, 0))) (hL : BAt w (.slice A m cap) L) (hb : bok L) (hm : m ≤ 1000) :
    GSeq seen K (fun K => K Bs ∧ BK K (.slice A m cap) L) (fun _ _ => True) fkey aR Fence.wide n Try.prog 105 #[.pointer (some ⟨Bs, 0, none⟩)] (allF L) w := by
  intro l J Jx W hW hJ hJx hJK _ hY s0 hs0 h0 hC
  have hn0 : 1 ≤ n := by omega
  have hn1 : 1 ≤ n - 1 := by omega
  have hlm := hL.len.1
  have hbs := block_kept hBs hW
  have hlw : Bs < W.heap.size := (Array.getElem?_eq_some_iff.1 hbs).1
  have c0 := (block_cell hbs).1
  have HL := Lib.hid (hL.kept hW)
  have HD : Hid (bok L ∧ L.length = m ∧ BK (K s0) (.slice A m cap) L) := ⟨hb, hlm, hC.2⟩
  have HY := Lib.hid hY
  have HJ := Lib.hid hJ
  have HJx := Lib.hid hJx
  have HJK := Lib.hid hJK
  have H0 := Lib.hid h0
  have HS0 := Lib.hid hs0
  clear hY hL hb hBs hlm hW hJ hJx h0 hbs hC hs0 hJK
  refine callsIn_of_wp_marks Try.func105 rfl trivial ?_ rfl
  simp only [Try.ntmps105, List.size_toArray, List.length_cons, List.length_nil, Nat.reduceAdd, Nat.reduceSub, Array.replicate_succ, Array.replicate_zero, List.push_toArray, List.append_toArray, List.nil_append, List.cons_append]
  gi_wp2_with (refine ⟨trivial, ?_⟩; gi_at_call 106; refine (callsIn_wide.2 (frames_any _ _ _ _)).mono ?_; rintro e w' ⟨rfl, rfl⟩)
  obtain ⟨W0, hW0⟩ : ∃ W0, W0 = (W.alloc (.cells #[.func (.yield l) #[] #[]] 130)).alloc (.cells #[.slice A m cap] 32) := ⟨_, rfl⟩
  have b1 : Boxed W0 W.heap.size 130 (.func (.yield l) #[] #[]) := by rw [hW0]; exact (Boxed.new W _ _).alloc _
  have b2 : W0.heap[W.heap.size + 1]? = some (.cells #[.slice A m cap] 32 (0, 0)) := by
    rw [hW0]
    have := block_new (W.alloc (.cells #[.func (.yield l) #[] #[]] 130)) (.cells #[.slice A m cap] 32)
    rw [World.size_alloc] at this
    exact this
  have hB0 : Below W.heap.size W W0 := by rw [hW0]; exact ((Below.refl _ W).alloc (Nat.le_refl _) _).alloc (by simp) _
  have hsz : W0.heap.size = W.heap.size + 1 + 1 := by rw [hW0]; simp
  rw [← hW0]
  clear hW0
  have hK0 := HJK.out s0 W H0.out
  refine' range_g (fun h => fR_put h) rfl (by omega) (gf := 132) (lb := #[.pointer (some ⟨W.heap.size + 1, 0, none⟩)]) rfl trivial (enters_of Try.func132 (by kernel_rfl) rfl)
    (B := W.heap.size) (by omega)
    (frames1_g _ (by omega) seen K (W.heap.size + 1) W0 A m cap L b2 (HL.out.kept hB0) HD.out.1 hm) rfl
    (fun s W' => J s W' ∧ Boxed W' W.heap.size 130 (.func (.yield l) #[] #[]) ∧ K s W.heap.size) (fun c s W' => c = .ret ∧ Jx s W')
    (fun s X Y row hs hg hr => ⟨ownFrom_mono HJ.out (by omega) s X Y row hs.1 hg hr, (Own.from (boxed_own _ _ (fun (_ : β) => Value.func (.yield l) #[] #[])) _) s X Y row hs.2.1 hg hr, hs.2.2⟩) (fun c s X Y row hs hg hr => ⟨hs.1, ownFrom_mono HJx.out (by omega) s X Y row hs.2 hg hr⟩)
    (fun s W' h => HJK.out s W' h.1) (fun _ _ _ _ _ _ => trivial) s0 HS0.out ⟨own_below HJ.out H0.out hB0, b1, hK0 _ (Nat.le_refl _)⟩ ⟨hK0 _ (by omega), HD.out.2.2⟩ _ ?assign ?body ?done ?stop
  case assign =>
    intro l x v W K hK
    gi_wp2
    exact hK
  case body =>
    rintro l2 s ⟨q, B⟩ v W1 ⟨hJ1, hbx, hkx⟩ hbat ⟨r, hr⟩
    obtain ⟨h1, h2, h3⟩ := AtP.fit hr
    have h2' : B.length + 8 ≤ L.length := h2
    have hBl : B.length ≤ 2000000 := by have := HD.out.2.1; omega
    obtain ⟨k, hk⟩ : ∃ k, k = B.length := ⟨_, rfl⟩
    obtain ⟨A5, c5, hv, _⟩ := id hbat
    have hv2 : v = .slice A5 k c5 := by rw [hk]; exact hv
    subst hv2
    have hcl := fun w0 (hw : Below W1.heap.size W1 w0) => clone_atK w0 A5 k c5 B (hbat.kept hw) (by omega)
    have d1 := hbx.cell
    have HC := Lib.hid hcl
    have HR : Hid (∃ r, allF L = seen s ++ (q, B) :: r) := ⟨r, hr⟩
    have HJ1 := Lib.hid hJ1
    have HBX := Lib.hid hbx
    have HKX := Lib.hid hkx
    have HY2 : Hid (∀ v w2, Below W1.heap.size W1 w2 → aR (K s) (q, B) v w2 → YieldAt Fence.wide (n - 1 - 1 - 1) Try.prog l #[.int .i64 (q : Int), v] w2 fun e W' => ∃ b : Bool, e = .returned (.bool b) ∧ (b = true → KS (K s) w2 W' ∧ ∃ s', seen s' = seen s ++ [(q, B)] ∧ J s' W' ∧ Goes (K s) (K s') w2) ∧ (b = false → KS (fun k => K s k ∧ W.heap.size ≤ k) w2 W' ∧ ∃ s', seen s' = seen s ++ [(q, B)] ∧ Jx s' W')) := fun v w2 hw hv => by
      obtain ⟨fn, tmps, assign, body, hy, hR⟩ := yield_any (n - 1 - 1 - 1) (HY.out s (q, B) v w2 (own_below HJ.out HJ1.out hw) hv HR.out)
      exact ⟨fn, tmps, assign, body, hy, hR.mono fun e W' h => by
        rcases h with ⟨h1, h2⟩ | ⟨h1, h2⟩
        · exact ⟨true, h1, fun _ => h2, fun h => (by cases h)⟩
        · exact ⟨false, h1, fun h => (by cases h), fun _ => h2⟩⟩
    clear h1 h2 h2' h3 hBl hbat hr hJ1 hcl hv hk hbx hkx
    have hmx : Try.prog.follows .mixedOrders = true := by kernel_rfl
    have hdp : 1 ≤ n - 1 - 1 := by omega
    have hBl : W.heap.size < W1.heap.size := World.block_lt_of_cell? _ _ d1
    gi_wp2
    gi_region_with_o (first
      | (refine ⟨trivial, ?_⟩; gi_at_call 55; refine (CallsIn.inRound l2 (callsIn_wide.2 (HC.out _ (Below.refl _ _).drew))).mono ?_; rintro e w2 ⟨A6, c6, rfl, ho, hb2⟩
         have d2 : w2.cell? ⟨W.heap.size, 0, none⟩ = some (.func (.yield l) #[] #[]) := (hb2.cell (p := ⟨W.heap.size, 0, none⟩) hBl).trans d1
         have hb3 : Below W1.heap.size W1 w2 := (Below.refl _ _).drew.trans hb2
         obtain ⟨fn, tmps, assign, body, hy, hR⟩ := HY2.out (.slice A6 k c6) w2 hb3 ⟨ho.1, fun hp a n c ha => HJK.out s W1 HJ1.out _ (ho.2 hp a n c ha)⟩
         have HB3 := Lib.hid hb3
         clear ho hb2 hb3)
      | (refine hR.mono ?_; rintro e W3 ⟨b, rfl, hb4, hb5⟩; have H4 := Lib.hid hb4; have H5 := Lib.hid hb5; clear hb4 hb5))
    all_goals
      cases b
      · have G := Lib.hid (H5.out rfl)
        clear H4 H5
        gi_wp2
        obtain ⟨g1, s', g2, g3⟩ := G.out
        exact ⟨(KS.of_below HB3.out).trans g1, s', g2, rfl, g3⟩
      · have G := Lib.hid (H4.out rfl)
        clear H4 H5
        gi_wp2
        obtain ⟨g1, s', g2, g3, g4⟩ := G.out
        have hk4 := (KS.of_below (K := K s) HB3.out).trans g1
        exact ⟨hk4, s', g2, ⟨g3, (hk4.2 _ HKX.out hBl).trans HBX.out, g4 _ HKX.out (Nat.lt_of_lt_of_le hBl HB3.out.size)⟩, fun k hk hl => g4 k hk (Nat.lt_of_lt_of_le hl HB3.out.size)⟩
  case done =>
    rintro D s W3 hD hs ⟨hJ3, hbx, _⟩ hK
    gi_wp2
    refine ⟨by simp, .inl ⟨_, _, rfl, run_takeDeferred hK, ?_⟩⟩
    exact ⟨_, results_none rfl _ _ _, ⟨_, rfl⟩, .inl ⟨s, hs, HJ.out.putObj _ hJ3 (by omega) hK rfl⟩⟩
  case stop =>
    rintro D c s r W3 hD hS ⟨rfl, hJx3⟩ hK
    gi_wp2
    refine ⟨by simp, .inl ⟨_, _, rfl, run_takeDeferred hK, ?_⟩⟩
    exact ⟨_, results_none rfl _ _ _, ⟨_, rfl⟩, .inr ⟨s, ⟨r, hS⟩, HJx.out.putObj _ hJx3 (by omega) hK rfl⟩⟩
end Go.Proofs.Ytffeinbbgfogoaa.Jo
