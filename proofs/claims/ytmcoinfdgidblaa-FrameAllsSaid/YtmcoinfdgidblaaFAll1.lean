/-
  The contracts of All, and of the function that it gives. Conditions: at most a thousand bytes.
-/
import Derived.Test.YtmcoinfdgidblaaFIt1
namespace Go.Proofs.Ytmcoinfdgidblaa.Fr
open Go.RowKit Go.Shelf
attribute [local go_sem] Oper.semAt_some

theorem yield_any {m : Nat} (m' : Nat) {P : Program} {l : Nat} {args : Array Value} {W : World} {Q : Ending → World → Prop} (h : YieldAt Fence.wide m P l args W Q) : YieldAt Fence.wide m' P l args W Q := by
  obtain ⟨fn, tmps, assign, body, hy, h1, h2⟩ := h
  exact ⟨fn, tmps, assign, body, hy, h1, fun c cs _ => h2 c cs (fun d h => by cases h)⟩
theorem ownFrom_mono {β : Type} {B B' : Nat} {J : β → World → Prop} (h : OwnFrom B J) (hb : B ≤ B') : OwnFrom B' J :=
  fun s W W' row hs hg hr => h s W W' row hs hg (fun r e => ⟨Nat.le_trans hb (hr r e).1, (hr r e).2⟩)
theorem clone_at (w : World) (A : Option Addr) (n c : Nat) (l : List Int) (h : BAt w (.slice A n c) l) (hn : n ≤ 2000000) :
    Calls Try.prog 25 #[.slice A n c] w fun e w' => ∃ A' c', e = .returned (.slice A' n c') ∧ BAt w' (.slice A' n c') l ∧ Below w.heap.size w w' := by
  have hl := h.len.1
  refine (clone_any w _ l h (by omega)).mono fun e w' ⟨u, h1, h2, h3⟩ => ?_
  have h4 := BAt.of_own h2
  obtain ⟨A', c', h5, _⟩ := id h4
  rw [hl] at h5
  subst h5
  exact ⟨A', c', h1, h4, h3⟩
set_option maxRecDepth 100000 in
set_option maxHeartbeats 1000000 in
theorem all_any (w : World) (A : Option Addr) (m cap : Nat) (L : List Int) (hL : BAt w (.slice A m cap) L) (hm : m ≤ 1000) :
    Calls Try.prog 18 #[.slice A m cap] w fun e w' => ∃ A1 c1 Bs, e = .returned (.func (.func 27) #[] #[.pointer (some ⟨Bs, 0, none⟩)]) ∧ w.heap.size ≤ Bs ∧ w'.heap[Bs]? = some (.cells #[.slice A1 m c1] 23 (0, 0)) ∧ BAt w' (.slice A1 m c1) L ∧ BK (fun k => w.heap.size ≤ k) (.slice A1 m c1) L ∧ Below w.heap.size w w' := by
  have hlm := hL.len.1
  have HC := Lib.hid (clone_any w _ L hL (by omega))
  have HM : Hid (L.length = m) := hlm
  clear hL hlm
  go_enter Try.func18, Try.ntmps18
  go_wp2_with (go_at_call 25; refine HC.out.mono ?_; rintro e w1 ⟨u, rfl, ho, hb⟩
               obtain ⟨A1, c1, hu⟩ : ∃ A c, u = Value.slice A m c := (by obtain ⟨A, c, h2, _⟩ := BAt.of_own ho; exact ⟨A, c, by rw [h2, HM.out]⟩)
               subst hu
               have HO := Lib.hid ho
               have HB := Lib.hid hb
               clear ho hb)
  go_ret
  have hal : Below w1.heap.size w1 (w1.alloc (.cells #[.slice A1 m c1] 23)) := (Below.refl _ _).alloc (Nat.le_refl _) _
  refine ⟨A1, c1, w1.heap.size, rfl, HB.out.size, block_new _ _, (BAt.of_own HO.out).kept hal, fun _ a n c ha => ?_, HB.out.trans (hal.mono HB.out.size)⟩
  cases ha
  exact (HO.out.lt a.block rfl).1

set_option maxRecDepth 100000 in
set_option maxHeartbeats 4000000 in
theorem all1_seq (n : Nat) (hn : 6 ≤ n) (lo Bs : Nat) (w : World) (A : Option Addr) (m cap : Nat) (L : List Int) (hBs : w.heap[Bs]? = some (.cells #[.slice A m cap] 23 (0, 0))) (hlo : lo ≤ Bs) (hL : BAt w (.slice A m cap) L) (hK : BK (fun k => lo ≤ k) (.slice A m cap) L) (hb : bok L) (hm : m ≤ 1000) :
    OSeq Fence.wide n Try.prog 27 #[.pointer (some ⟨Bs, 0, none⟩)] (fun k => lo ≤ k) (allF L) w := by
  intro l J Jx W hW hJ hJx hY h0
  have hn0 : 1 ≤ n := by omega
  have hn1 : 1 ≤ n - 1 := by omega
  have hlm := hL.len.1
  have hbs := block_kept hBs hW
  have hlw : Bs < W.heap.size := (Array.getElem?_eq_some_iff.1 hbs).1
  have c0 := (block_cell hbs).1
  have HL := Lib.hid (hL.kept hW)
  have HD : Hid (bok L ∧ L.length = m ∧ BK (fun k => lo ≤ k) (.slice A m cap) L) := ⟨hb, hlm, hK⟩
  have HY := Lib.hid hY
  have HJ := Lib.hid hJ
  have HJx := Lib.hid hJx
  have H0 := Lib.hid h0
  clear hY hL hK hb hBs hlm hW hJ hJx h0 hbs
  refine callsIn_of_wp_marks Try.func27 rfl trivial ?_ rfl
  simp only [Try.ntmps27, List.size_toArray, List.length_cons, List.length_nil, Nat.reduceAdd, Nat.reduceSub, Array.replicate_succ, Array.replicate_zero, List.push_toArray, List.append_toArray, List.nil_append, List.cons_append]
  gi_wp2_with (refine ⟨trivial, ?_⟩; gi_at_call 28; refine (callsIn_wide.2 (frames_any _ _ _ _)).mono ?_; rintro e w' ⟨rfl, rfl⟩)
  obtain ⟨W0, hW0⟩ : ∃ W0, W0 = (W.alloc (.cells #[.func (.yield l) #[] #[]] 53)).alloc (.cells #[.slice A m cap] 23) := ⟨_, rfl⟩
  have b1 : Boxed W0 W.heap.size 53 (.func (.yield l) #[] #[]) := by rw [hW0]; exact (Boxed.new W _ _).alloc _
  have b2 : W0.heap[W.heap.size + 1]? = some (.cells #[.slice A m cap] 23 (0, 0)) := by
    rw [hW0]
    have := block_new (W.alloc (.cells #[.func (.yield l) #[] #[]] 53)) (.cells #[.slice A m cap] 23)
    rw [World.size_alloc] at this
    exact this
  have hB0 : Below W.heap.size W W0 := by rw [hW0]; exact ((Below.refl _ W).alloc (Nat.le_refl _) _).alloc (by simp) _
  have hsz : W0.heap.size = W.heap.size + 1 + 1 := by rw [hW0]; simp
  rw [← hW0]
  clear hW0
  refine' range_o rfl (by omega) (gf := 30) (lb := #[.pointer (some ⟨W.heap.size + 1, 0, none⟩)]) rfl trivial (enters_of Try.func30 (by kernel_rfl) rfl)
    (K := fun k => lo ≤ k) (K' := fun k => W.heap.size ≤ k) (fun k hk => by omega) (fun k hk => by omega)
    (frames1_seq _ (by omega) (fun k => lo ≤ k) (W.heap.size + 1) W0 A m cap L b2 (by omega) (HL.out.kept hB0) HD.out.2.2 HD.out.1 hm) rfl
    (fun pre W' => J pre W' ∧ Boxed W' W.heap.size 53 (.func (.yield l) #[] #[])) (fun c pre W' => c = .ret ∧ Jx pre W')
    (OwnFrom.and (ownFrom_mono HJ.out (by omega)) (Own.from (boxed_own _ _ _) _)) (fun c s X Y row hs hg hr => ⟨hs.1, ownFrom_mono HJx.out (by omega) s X Y row hs.2 hg hr⟩) ⟨own_below HJ.out H0.out hB0, b1⟩ _ ?assign ?body ?done ?stop
  case assign =>
    intro l x v W K hK
    gi_wp2
    exact hK
  case body =>
    rintro l2 pre ⟨q, B⟩ v W1 ⟨hJ1, hbx⟩ hbat ⟨r, hr⟩
    obtain ⟨h1, h2, h3⟩ := AtP.fit hr
    have h2' : B.length + 8 ≤ L.length := h2
    have hBl : B.length ≤ 2000000 := by have := HD.out.2.1; omega
    obtain ⟨k, hk⟩ : ∃ k, k = B.length := ⟨_, rfl⟩
    obtain ⟨A5, c5, hv, _⟩ := id hbat
    have hv2 : v = .slice A5 k c5 := by rw [hk]; exact hv
    subst hv2
    have hcl := fun w0 (hw : Below W1.heap.size W1 w0) => clone_at w0 A5 k c5 B (hbat.kept hw) (by omega)
    have d1 := hbx.cell
    have HC := Lib.hid hcl
    have HR : Hid (∃ r, allF L = pre ++ (q, B) :: r) := ⟨r, hr⟩
    have HJ1 := Lib.hid hJ1
    have HY2 : Hid (∀ v w2, Below W1.heap.size W1 w2 → BAt w2 v B → YieldAt Fence.wide (n - 1 - 1 - 1) Try.prog l #[.int .i64 (q : Int), v] w2 fun e W' => ∃ b : Bool, e = .returned (.bool b) ∧ (b = true → J (pre ++ [(q, B)]) W' ∧ KS (fun k => lo ≤ k) w2 W') ∧ (b = false → Jx (pre ++ [(q, B)]) W' ∧ KS (fun k => W.heap.size ≤ k) w2 W')) := fun v w2 hw hv => by
      obtain ⟨fn, tmps, assign, body, hy, hR⟩ := yield_any (n - 1 - 1 - 1) (HY.out pre (q, B) v w2 (own_below HJ.out HJ1.out hw) hv HR.out)
      exact ⟨fn, tmps, assign, body, hy, hR.mono fun e W' h => by
        rcases h with ⟨h1, h2, h3⟩ | ⟨h1, h2, h3⟩
        · exact ⟨true, h1, fun _ => ⟨h2, h3⟩, fun h => (by cases h)⟩
        · exact ⟨false, h1, fun h => (by cases h), fun _ => ⟨h2, h3⟩⟩⟩
    have HKK := Lib.hid hk
    clear h1 h2 h2' h3 hBl hbat hr hJ1 hcl hv hk
    have hmx : Try.prog.follows .mixedOrders = true := by kernel_rfl
    have hdp : 1 ≤ n - 1 - 1 := by omega
    have hBl : W.heap.size < W1.heap.size := World.block_lt_of_cell? _ _ d1
    gi_wp2
    gi_region_with_o (first
      | (refine ⟨trivial, ?_⟩; gi_at_call 25; refine (CallsIn.inRound l2 (callsIn_wide.2 (HC.out _ (Below.refl _ _).drew))).mono ?_; rintro e w2 ⟨A6, c6, rfl, ho, hb2⟩
         have d2 : w2.cell? ⟨W.heap.size, 0, none⟩ = some (.func (.yield l) #[] #[]) := (hb2.cell (p := ⟨W.heap.size, 0, none⟩) hBl).trans d1
         have hb3 : Below W1.heap.size W1 w2 := (Below.refl _ _).drew.trans hb2
         obtain ⟨fn, tmps, assign, body, hy, hR⟩ := HY2.out (.slice A6 k c6) w2 hb3 ho
         have HB3 := Lib.hid hb3
         clear ho hb2 hb3)
      | (refine hR.mono ?_; rintro e W3 ⟨b, rfl, hb4, hb5⟩; have H4 := Lib.hid hb4; have H5 := Lib.hid hb5; clear hb4 hb5))
    all_goals
      cases b
      · have G := Lib.hid (H5.out rfl)
        clear H4 H5
        gi_wp2
        exact ⟨(KS.of_below HB3.out).trans G.out.2, rfl, G.out.1⟩
      · have G := Lib.hid (H4.out rfl)
        clear H4 H5
        gi_wp2
        have hk4 := (KS.of_below (K := fun k => lo ≤ k) HB3.out).trans G.out.2
        exact ⟨hk4, G.out.1, (hk4.2 _ (by show lo ≤ W.heap.size; omega) hBl).trans hbx⟩
  case done =>
    rintro D W3 hD ⟨hJ3, hbx⟩ hK
    gi_wp2
    refine ⟨by simp, .inl ⟨_, _, rfl, run_takeDeferred hK, ?_⟩⟩
    exact ⟨_, results_none rfl _ _ _, ⟨_, rfl⟩, .inl (HJ.out.putObj _ hJ3 (by omega) hK rfl)⟩
  case stop =>
    rintro D c pre r W3 hD hS ⟨rfl, hJx3⟩ hK
    gi_wp2
    refine ⟨by simp, .inl ⟨_, _, rfl, run_takeDeferred hK, ?_⟩⟩
    exact ⟨_, results_none rfl _ _ _, ⟨_, rfl⟩, .inr ⟨pre, ⟨r, hS⟩, HJx.out.putObj _ hJx3 (by omega) hK rfl⟩⟩
end Go.Proofs.Ytmcoinfdgidblaa.Fr
