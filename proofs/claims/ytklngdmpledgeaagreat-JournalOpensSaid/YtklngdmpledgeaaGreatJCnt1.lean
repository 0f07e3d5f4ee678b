/-
  The contract of the function that counting gives. Conditions: at most a thousand bytes.
-/
import Derived.Test.YtklngdmpledgeaaGreatJZ9
namespace Go.Proofs.YtklngdmpledgeaaGreat.Jo
open Go.RowKit Go.Shelf Fr
attribute [local go_sem] Oper.semAt_some
variable {β : Type}

/-- A state that asks nothing of the iterator's own numbers. -/
def EInt (J : β → World → Prop) (B : Nat) : Prop := ∀ s X r x y, J s X → B ≤ r → X.heap[r]? = some (.cells #[.int .i64 x] 3 (0, 0)) → J s (X.setCell ⟨r, 0, none⟩ (.int .i64 y))
/-- Between two rounds: what was given, and what is to be given. -/
def CI (seen : β → List Rc) (_L : List Int) (nb : Nat) (s : β) (pre : List Fr) (W : World) : Prop :=
  ∃ nx : Nat, nx ≤ 4611686018427387904 ∧ Boxed W nb 3 (.int .i64 (nx : Int)) ∧ ∀ r, cntF 0 (pre ++ r) = seen s ++ cntF nx r
theorem CI.kept {seen : β → List Rc} {L : List Int} {nb : Nat} {s : β} {pre : List Fr} {W W' : World} (h : CI seen L nb s pre W) (hk : W'.heap[nb]? = W.heap[nb]?) : CI seen L nb s pre W' := by
  obtain ⟨nx, h1, h2, h3⟩ := h
  exact ⟨nx, h1, hk.trans h2, h3⟩
theorem boxed_below {w w' : World} {a b : Nat} {t t' : TypeId} {u v : Value} (h : Boxed w a t u) (k : Boxed w b t' v) (hb : Below w.heap.size w w') : Boxed w' a t u ∧ Boxed w' b t' v := ⟨block_kept h hb, block_kept k hb⟩
set_option maxRecDepth 100000 in
set_option maxHeartbeats 8000000 in
theorem counting1_g (n : Nat) (hn : 9 ≤ n) (seen : β → List Rc) (K : β → Nat → Prop) (Bs : Nat) (w : World) (A : Option Addr) (m cap : Nat) (L : List Int) (hBs : w.heap[Bs]? = some (.cells #[.slice A m cap] 22 (0, 0))) (hL : BAt w (.slice A m cap) L) (hb : bok L) (hm : m ≤ 1000) :
    GSeq seen K (fun _ => True) EInt ckey cR Fence.wide n Tryz.prog 46 #[.pointer (some ⟨Bs, 0, none⟩)] (cnt L) w := by
  intro l J Jx W hW hJ hJx hJK hJE hY s0 hs0 h0 hC
  have hn0 : 1 ≤ n := by omega
  have hn1 : 1 ≤ n - 1 := by omega
  have hlm := hL.len.1
  have hbs := block_kept hBs hW
  have hlw : Bs < W.heap.size := (Array.getElem?_eq_some_iff.1 hbs).1
  have c0 := (block_cell hbs).1
  have HL := Lib.hid (hL.kept hW)
  have HBS := Lib.hid hbs
  have HD : Hid (bok L ∧ L.length = m) := ⟨hb, hlm⟩
  have HY := Lib.hid hY
  have HJ := Lib.hid hJ
  have HJx := Lib.hid hJx
  have HJK := Lib.hid hJK
  have HJE := Lib.hid hJE
  have H0 := Lib.hid h0
  have HS0 := Lib.hid hs0
  clear hY hL hb hBs hlm hW hJ hJx h0 hbs hC hs0 hJK hJE
  obtain ⟨W0, hW0⟩ : ∃ W0, W0 = (W.alloc (.cells #[.func (.yield l) #[] #[]] 97)).alloc (.cells #[.int .i64 0] 3) := ⟨_, rfl⟩
  have b1 : Boxed W0 W.heap.size 97 (.func (.yield l) #[] #[]) := by rw [hW0]; exact (Boxed.new W _ _).alloc _
  have b2 : Boxed W0 (W.heap.size + 1) 3 (.int .i64 (0 : Int)) := by
    rw [hW0]
    have := Boxed.new (W.alloc (.cells #[.func (.yield l) #[] #[]] 97)) 3 (.int .i64 0)
    rwa [World.size_alloc] at this
  have hB0 : Below W.heap.size W W0 := by rw [hW0]; exact ((Below.refl _ W).alloc (Nat.le_refl _) _).alloc (by simp) _
  have hsz : W0.heap.size = W.heap.size + 1 + 1 := by rw [hW0]; simp
  have c1 : W0.cell? ⟨Bs, 0, none⟩ = some (.slice A m cap) := (hB0.cell (p := ⟨Bs, 0, none⟩) hlw).trans c0
  have HA := Lib.hid (all_any W0 A m cap L (HL.out.kept hB0) hm)
  have HB0 := Lib.hid hB0
  have HB1 := Lib.hid b1
  have HB2 := Lib.hid b2
  have HSZ := Lib.hid hsz
  clear hB0 hsz c0 b1 b2
  refine callsIn_of_wp_marks Tryz.func46 rfl trivial ?_ rfl
  simp only [Tryz.ntmps46, List.size_toArray, List.length_cons, List.length_nil, Nat.reduceAdd, Nat.reduceSub, Array.replicate_succ, Array.replicate_zero, List.push_toArray, List.append_toArray, List.nil_append, List.cons_append]
  rw [hW0] at c1
  have HW0 := Lib.hid hW0
  clear hW0
  gi_wp2_with (refine ⟨trivial, ?_⟩; gi_at_call 47; rw [← HW0.out]; refine (callsIn_wide.2 HA.out).mono ?_; rintro e w1 ⟨A1, cp1, Bi, rfl, hlo, hbi, hat, hbk, hbl⟩; have HA1 := Lib.hid (And.intro hlo (And.intro hbi (And.intro hat (And.intro hbk hbl)))); clear hlo hbi hat hbk hbl)
  have HBA := Lib.hid (boxed_below HB1.out HB2.out HA1.out.2.2.2.2)
  have hnb : W.heap.size + 1 < w1.heap.size := by have := HA1.out.2.2.2.2.size; have := HSZ.out; omega
  have hJ1 := own_below HJ.out H0.out (HB0.out.trans (HA1.out.2.2.2.2.mono (by have := HSZ.out; omega)))
  have hK1 := HJK.out s0 W H0.out
  have hlo := HA1.out.1
  refine' range_g (β := β × List Fr) (seen := fun t => t.2) (K := fun t k => K t.1 k ∧ k ≠ W.heap.size + 1) (fun h => aR_put h) rfl (by omega) (gf := 67) (lb := #[.pointer (some ⟨Bi, 0, none⟩)]) rfl trivial (enters_of Tryz.func67 (by kernel_rfl) rfl)
    (B := W.heap.size) (by have := HSZ.out; omega)
    (all1_g _ (by omega) (fun t : β × List Fr => t.2) (fun t k => K t.1 k ∧ k ≠ W.heap.size + 1) Bi w1 A1 m cp1 L HA1.out.2.1 HA1.out.2.2.1 HD.out.1 hm) rfl
    (fun t W' => J t.1 W' ∧ Boxed W' W.heap.size 97 (.func (.yield l) #[] #[]) ∧ K t.1 W.heap.size ∧ K t.1 (W.heap.size + 1) ∧ CI seen L (W.heap.size + 1) t.1 t.2 W')
    (fun c t W' => c = .ret ∧ ((seen t.1 = cnt L ∧ J t.1 W') ∨ ((∃ r, cnt L = seen t.1 ++ r) ∧ Jx t.1 W')))
    (fun t X Y row hs hg hr => ⟨ownFrom_mono HJ.out (by omega) t.1 X Y row hs.1 hg hr, (Own.from (boxed_own _ _ (fun (_ : β × List Fr) => Value.func (.yield l) #[] #[])) _) t X Y row hs.2.1 hg hr, hs.2.2.1, hs.2.2.2.1, ?ciown⟩)
    (fun c t X Y row hs hg hr => ⟨hs.1, hs.2.imp (fun h => ⟨h.1, ownFrom_mono HJ.out (by omega) t.1 X Y row h.2 hg hr⟩) (fun h => ⟨h.1, ownFrom_mono HJx.out (by omega) t.1 X Y row h.2 hg hr⟩)⟩)
    (fun t W' h => fun k hk => ⟨HJK.out t.1 W' h.1 k hk, ?nbne⟩) (fun _ _ _ _ _ _ => trivial) (s0, []) rfl ⟨hJ1, HBA.out.1, hK1 _ (Nat.le_refl _), hK1 _ (by omega), ?start⟩ ⟨⟨hK1 _ (by have := HSZ.out; omega), by have := HSZ.out; omega⟩, ?bk⟩ _ ?assign ?body ?done ?stop
  case ciown =>
    obtain ⟨nx, h1, h2, h3⟩ := hs.2.2.2.2
    exact ⟨nx, h1, (Own.from (boxed_own _ _ (fun (_ : β × List Fr) => Value.int .i64 (nx : Int))) _) t X Y row h2 hg hr, h3⟩
  case nbne =>
    obtain ⟨nx, h1, h2, h3⟩ := h.2.2.2.2
    have := (Array.getElem?_eq_some_iff.1 h2).1
    omega
  case start =>
    refine ⟨0, by omega, HBA.out.2, fun r => ?_⟩
    show cntF 0 ([] ++ r) = seen s0 ++ cntF 0 r
    rw [HS0.out]; rfl
  case bk =>
    intro hp a n2 c2 ha
    have h1 : W0.heap.size ≤ a.block := HA1.out.2.2.2.1 hp a n2 c2 ha
    have := HSZ.out
    exact ⟨hK1 _ (by omega), by omega⟩
  case assign =>
    intro l x v W K hK
    gi_wp2
    exact hK
  case done =>
    rintro D ⟨s, pre⟩ W3 hD hs ⟨hJ3, hbx, hkx, _, nx, _, _, hci⟩ hK
    gi_wp2
    refine ⟨by simp, .inl ⟨_, _, rfl, run_takeDeferred hK, ?_⟩⟩
    have e1 : pre = allF L := hs
    have e2 := hci []
    rw [List.append_nil, e1] at e2
    have e3 : cntF nx [] = [] := by cases nx <;> rfl
    rw [e3, List.append_nil] at e2
    exact ⟨_, results_none rfl _ _ _, ⟨_, rfl⟩, .inl ⟨s, e2.symm, HJ.out.putObj _ hJ3 (by omega) hK rfl⟩⟩
  case stop =>
    rintro D c ⟨s, pre⟩ r W3 hD hS ⟨rfl, hx⟩ hK
    gi_wp2
    refine ⟨by simp, .inl ⟨_, _, rfl, run_takeDeferred hK, ?_⟩⟩
    refine ⟨_, results_none rfl _ _ _, ⟨_, rfl⟩, hx.imp (fun h => ⟨s, h.1, HJ.out.putObj _ h.2 (by omega) hK rfl⟩) (fun h => ⟨s, h.1, HJx.out.putObj _ h.2 (by omega) hK rfl⟩)⟩
  case body =>
    rintro l2 ⟨s, pre⟩ ⟨q, B⟩ v W1 ⟨hJ1, hbx, hkx, hkn, hci⟩ ⟨hbat, hbk⟩ ⟨r, hr⟩
    dsimp only [fkey]
    obtain ⟨nx, hnx, hnb1, hci⟩ := hci
    obtain ⟨h1, h2, h3⟩ := AtP.fit hr
    have h2' : B.length + 8 ≤ L.length := h2
    have h1' : q = whF pre := h1
    have h3' : whF pre ≤ L.length := h3
    obtain ⟨k, hk⟩ : ∃ k, k = B.length := ⟨_, rfl⟩
    obtain ⟨A5, c5, hv, _⟩ := id hbat
    have hv2 : v = .slice A5 k c5 := by rw [hk]; exact hv
    subst hv2
    have hbB : bok B := fits_bok HD.out.1 hr
    have hb4 : k ≤ 1000 ∧ q ≤ 1000 := by have := HD.out.2; omega
    have hS : cnt L = seen s ++ cntF nx ((q, B) :: r) := by rw [← hci]; show cntF 0 (allF L) = _; rw [hr]
    have d1 := hbx.cell
    have d2 := hnb1.cell
    have HBK := Lib.hid hbk
    have HU := Lib.hid (And.intro hbat (And.intro hbB hb4))
    have HS := Lib.hid hS
    have HCI := Lib.hid hci
    have HJ1 := Lib.hid hJ1
    have HBX := Lib.hid hbx
    have HNB := Lib.hid hnb1
    have HKX := Lib.hid (And.intro hkx hkn)
    have HK2 := Lib.hid hk
    clear h1 h2 h2' h3 hbat hbk hr hv hk hbB hS hci hJ1 hbx hnb1 hkx hkn h1' h3'
    have hdp : 1 ≤ n - 1 - 1 := by omega
    have hBl : W.heap.size < W1.heap.size := World.block_lt_of_cell? _ _ d1
    have hBn : W.heap.size + 1 < W1.heap.size := World.block_lt_of_cell? _ _ d2
    cases hd : dec B with
    | none =>
      have HN := Lib.hid (uns_none HU.out.1 HU.out.2.1 (by have := HU.out.2.2; omega) hd)
      have hSe : seen s = cnt L := by rw [HS.out, cntF_none hd, List.append_nil]
      have HSE := Lib.hid hSe
      clear hSe
      gi_wp2_with (refine ⟨trivial, ?_⟩; gi_at_call 48; refine (CallsIn.inRound l2 (callsIn_wide.2 HN.out)).mono ?_; rintro e w2 ⟨z, A6, k6, c6, rfl, hb2⟩; have HB2 := Lib.hid hb2; clear hb2)
      have hb3 := HB2.out.alloc HB2.out.size (.cells #[.int .i64 z, .slice A6 k6 c6] 72)
      exact ⟨KS.of_below hb3, (s, pre ++ [(q, B)]), rfl, rfl, .inl ⟨HSE.out, own_below HJ.out HJ1.out hb3⟩⟩
    | some y =>
      obtain ⟨z, bs⟩ := y
      by_cases hstop : 0 < q ∧ z ≠ nx
      · have HN := Lib.hid (uns_some HU.out.1 HU.out.2.1 (by have := HU.out.2.2; omega) hd)
        have hSe : seen s = cnt L := by rw [HS.out, cntF_bad hd hstop, List.append_nil]
        have HSE := Lib.hid hSe
        have hq0 : (0 : Int) < (q : Int) := by omega
        have hzn : ¬ ((z : Int) = (nx : Int)) := by omega
        clear hSe
        gi_wp2_with (refine ⟨trivial, ?_⟩; gi_at_call 48; refine (CallsIn.inRound l2 (callsIn_wide.2 HN.out)).mono ?_; rintro e w2 ⟨A6, k6, c6, rfl, _, hb2⟩; have HB2 := Lib.hid hb2
                     have d3 : (w2.alloc (.cells #[.int .i64 (z : Int), .slice A6 k6 c6] 72)).cell? ⟨W.heap.size + 1, 0, none⟩ = some (.int .i64 (nx : Int)) := ((hb2.alloc hb2.size _).cell (p := ⟨W.heap.size + 1, 0, none⟩) hBn).trans d2
                     clear hb2)
        have hb3 := HB2.out.alloc HB2.out.size (.cells #[.int .i64 (z : Int), .slice A6 k6 c6] 72)
        exact ⟨KS.of_below hb3, (s, pre ++ [(q, B)]), rfl, rfl, .inl ⟨HSE.out, own_below HJ.out HJ1.out hb3⟩⟩
      · obtain ⟨e, he⟩ : ∃ e, e = q + k + 8 := ⟨_, rfl⟩
        have hz := dec_le hd
        have hz2 : z ≤ 4611686018427387903 := hz
        have hxx : ∀ r', cntF nx ((q, B) :: r') = ((e, z, bs) : Rc) :: cntF (z + 1) r' := fun r' => by
          rw [cntF_good hd hstop, he, HK2.out]
        have HSX : Hid (∃ r, cnt L = seen s ++ ((e, z, bs) : Rc) :: r) := ⟨_, by rw [HS.out, hxx]⟩
        have HCX : Hid (∀ r', cntF 0 ((pre ++ [(q, B)]) ++ r') = (seen s ++ [((e, z, bs) : Rc)]) ++ cntF (z + 1) r') := fun r' => by
          rw [List.append_assoc, HCI.out ([(q, B)] ++ r'), List.append_assoc]
          show _ = seen s ++ (((e, z, bs) : Rc) :: cntF (z + 1) r')
          rw [← hxx]; rfl
        have HN := Lib.hid (uns_some HU.out.1 HU.out.2.1 (by have := HU.out.2.2; omega) hd)
        have e1 : (q : Int) + (k : Int) + 8 = (e : Int) := by omega
        have HY2 : Hid (∀ v w2, Below W1.heap.size W1 w2 → cR (K s) (e, z, bs) v w2 → YieldAt Fence.wide (n - 1 - 1 - 1) Tryz.prog l #[.int .i64 (e : Int), v] w2 fun e' W' => ∃ b : Bool, e' = .returned (.bool b) ∧ (b = true → KS (K s) w2 W' ∧ ∃ s', seen s' = seen s ++ [((e, z, bs) : Rc)] ∧ J s' W' ∧ Goes (K s) (K s') w2) ∧ (b = false → KS (fun k => K s k ∧ W.heap.size ≤ k) w2 W' ∧ ∃ s', seen s' = seen s ++ [((e, z, bs) : Rc)] ∧ Jx s' W')) := fun v w2 hw hv => by
          obtain ⟨fn, tmps, assign, body, hy, hR⟩ := yield_any (n - 1 - 1 - 1) (HY.out s (e, z, bs) v w2 (own_below HJ.out HJ1.out hw) hv HSX.out)
          exact ⟨fn, tmps, assign, body, hy, hR.mono fun e W' h => by
            rcases h with ⟨h1, h2⟩ | ⟨h1, h2⟩
            · exact ⟨true, h1, fun _ => h2, fun h => (by cases h)⟩
            · exact ⟨false, h1, fun h => (by cases h), fun _ => h2⟩⟩
        have hqb : q ≤ 1000 ∧ k ≤ 1000 := ⟨HU.out.2.2.2, HU.out.2.2.1⟩
        obtain ⟨hq1, hk1⟩ := hqb
        have hgd : ¬ (0 : Int) < (q : Int) ∨ ((0 : Int) < (q : Int) ∧ z = nx) := by omega
        have HE := Lib.hid he
        have he3 : e ≤ 3000 := by omega
        clear he hxx hd hstop hz
        rcases hgd with hg | ⟨hg, rfl⟩
        all_goals
          gi_wp2_with (refine ⟨trivial, ?_⟩; gi_at_call 48; refine (CallsIn.inRound l2 (callsIn_wide.2 HN.out)).mono ?_; rintro e9 w2 ⟨A6, k6, c6, rfl, hb6, hb2⟩
                       have hb3 := hb2.alloc hb2.size (.cells #[.int .i64 (z : Int), .slice A6 k6 c6] 72)
                       have d3 := (hb3.cell (p := ⟨W.heap.size + 1, 0, none⟩) hBn).trans d2
                       have d4 : (w2.alloc (.cells #[.int .i64 (z : Int), .slice A6 k6 c6] 72)).cell? ⟨W.heap.size, 0, none⟩ = some (.func (.yield l) #[] #[]) := (hb3.cell (p := ⟨W.heap.size, 0, none⟩) hBl).trans d1
                       obtain ⟨fn, tmps, assign, body, hy, hR⟩ := HY2.out (.agg #[.int .i64 (z : Int), .slice A6 k6 c6]) _ hb3 ⟨A6, k6, c6, rfl, hb6.1.kept (alloc_below _ _), fun hp a n c ha => (hb6.2 _ HBK.out hp a n c ha).1⟩
                       have HB2 := Lib.hid hb2
                       have HB3 := Lib.hid hb3
                       clear hb2 hb3 hb6)
          refine hR.mono ?_
          rintro e9 W3 ⟨b, rfl, hb4, hb5⟩
          have H4 := Lib.hid hb4
          have H5 := Lib.hid hb5
          clear hb4 hb5 hy hR
          cases b
          · have G := Lib.hid (H5.out rfl)
            clear H4 H5
            gi_wp2
            obtain ⟨g1, s', g2, g3⟩ := G.out
            refine ⟨(KS.of_below HB3.out).trans (g1.mono fun k hk => ⟨hk.1.1, hk.2⟩), (s', pre ++ [(q, B)]), rfl, rfl, .inr ⟨?_, g3⟩⟩
            obtain ⟨r2, hr2⟩ := HSX.out
            exact ⟨r2, by rw [hr2, g2]; simp⟩
          · have G := Lib.hid (H4.out rfl)
            clear H4 H5
            obtain ⟨g1, s', g2, g3, g4⟩ := G.out
            have hw3 : w2.heap.size < (w2.alloc (.cells #[.int .i64 (z : Int), .slice A6 k6 c6] 72)).heap.size := by simp
            have hrow : W3.heap[w2.heap.size]? = some (.cells #[.int .i64 (z : Int), .slice A6 k6 c6] 72 (0, 0)) := (g1.2 _ (HJK.out s W1 HJ1.out _ HB2.out.size) hw3).trans (block_new _ _)
            have x1 := (block_cell2 hrow).1.1
            have hnl : W.heap.size + 1 < (w2.alloc (.cells #[.int .i64 (z : Int), .slice A6 k6 c6] 72)).heap.size := Nat.lt_of_lt_of_le hBn HB3.out.size
            have hnb3 := (g1.2 _ HKX.out.2 hnl).trans (block_kept HNB.out HB3.out)
            have hyb3 := (g1.2 _ HKX.out.1 (Nat.lt_of_lt_of_le hBl HB3.out.size)).trans (block_kept HBX.out HB3.out)
            have x2 := (block_cell hnb3).1
            have x3 := (block_cell hnb3).2
            have HG := Lib.hid (And.intro g1 (And.intro g2 (And.intro g3 g4)))
            have HNB3 := Lib.hid hnb3
            have HYB3 := Lib.hid hyb3
            have HNL := Lib.hid hnl
            clear g1 g2 g3 g4 hrow hw3 hnl hnb3 hyb3 G
            gi_wp2
            obtain ⟨g1, g2, g3, g4⟩ := HG.out
            refine ⟨((KS.of_below HB3.out).trans (g1.mono fun k hk => hk.1)).trans (KS.set (fun h => h.2 rfl) _), (s', pre ++ [(q, B)]), rfl, ⟨HJE.out s' W3 _ _ _ g3 (Nat.le_succ _) HNB3.out, ?_, g4 _ HKX.out.1 (Nat.lt_of_lt_of_le hBl HB3.out.size), g4 _ HKX.out.2 HNL.out, z + 1, by omega, ?_, fun r2 => ?_⟩, fun k hk hl => ⟨g4 k hk.1 (Nat.lt_of_lt_of_le hl HB3.out.size), hk.2⟩⟩
            · exact block_set HYB3.out (by show W.heap.size ≠ W.heap.size + 1; omega) _
            · exact block_put HNB3.out _
            · show cntF 0 ((pre ++ [(q, B)]) ++ r2) = seen s' ++ cntF (z + 1) r2
              rw [g2]; exact HCX.out r2
end Go.Proofs.YtklngdmpledgeaaGreat.Jo
