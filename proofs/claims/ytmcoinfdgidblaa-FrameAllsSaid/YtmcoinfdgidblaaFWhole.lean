/-
  The contract of Whole. Conditions: at most a thousand bytes.
-/
import Derived.Test.YtmcoinfdgidblaaFIt1
namespace Go.Proofs.Ytmcoinfdgidblaa.Fr
open Go.RowKit Go.Shelf
attribute [local go_sem] Oper.semAt_some

set_option maxRecDepth 100000 in
set_option maxHeartbeats 4000000 in
theorem whole_any (w : World) (A : Option Addr) (m cap : Nat) (L : List Int) (hL : BAt w (.slice A m cap) L) (hb : bok L) (hm : m ≤ 1000) :
    Calls Try.prog 19 #[.slice A m cap] w fun e w' => e = .returned (.int .i64 (whF (allF L) : Int)) ∧ Below w.heap.size w w' := by
  have hlm := hL.len.1
  have HL := Lib.hid hL
  have HB := Lib.hid hb
  have HM : Hid (L.length = m) := hlm
  clear hL hb hlm
  refine (callsIn_wide (n := 5)).1 ?_
  refine callsIn_of_wp_marks Try.func19 rfl trivial ?_ rfl
  simp only [Try.ntmps19, List.size_toArray, List.length_cons, List.length_nil, Nat.reduceAdd, Nat.reduceSub, Array.replicate_succ, Array.replicate_zero, List.push_toArray, List.append_toArray, List.nil_append, List.cons_append]
  gi_wp2_with (refine ⟨trivial, ?_⟩; gi_at_call 28; refine (callsIn_wide.2 (frames_any _ _ _ _)).mono ?_; rintro e w' ⟨rfl, rfl⟩)
  obtain ⟨W0, hW0⟩ : ∃ W0, W0 = (w.alloc (.cells #[.int .i64 0] 3)).alloc (.cells #[.slice A m cap] 23) := ⟨_, rfl⟩
  have b1 : Boxed W0 w.heap.size 3 (.int .i64 0) := by rw [hW0]; exact (Boxed.new w _ _).alloc _
  have b2 : W0.heap[w.heap.size + 1]? = some (.cells #[.slice A m cap] 23 (0, 0)) := by
    rw [hW0]
    have := block_new (w.alloc (.cells #[.int .i64 0] 3)) (.cells #[.slice A m cap] 23)
    rw [World.size_alloc] at this
    exact this
  have hB0 : Below w.heap.size w W0 := by rw [hW0]; exact ((Below.refl _ w).alloc (Nat.le_refl _) _).alloc (by simp) _
  have hsz : W0.heap.size = w.heap.size + 1 + 1 := by rw [hW0]; simp
  rw [← hW0]
  clear hW0
  have hBK : BK (fun k => k ≠ w.heap.size) (.slice A m cap) L := fun hp a n c ha => by
    obtain ⟨A', c', h1, h2, h3⟩ := HL.out
    obtain ⟨g, o, h4, h5, _⟩ := h3 hp
    cases ha; cases h1; cases h4
    show g ≠ w.heap.size
    omega
  refine' range_o rfl (by omega) (gf := 30) (lb := #[.pointer (some ⟨w.heap.size + 1, 0, none⟩)]) rfl trivial (enters_of Try.func30 (by kernel_rfl) rfl)
    (K := fun k => k ≠ w.heap.size) (K' := fun k => k ≠ w.heap.size) (fun k hk => by omega) (fun k hk => by omega)
    (frames1_seq _ (by omega) (fun k => k ≠ w.heap.size) (w.heap.size + 1) W0 A m cap L b2 (by omega) (HL.out.kept hB0) hBK HB.out hm) rfl
    (fun pre W => Boxed W w.heap.size 3 (.int .i64 (whF pre : Int)) ∧ Below w.heap.size w W) (fun _ _ _ => False)
    (OwnFrom.and (Own.from (boxed_own _ _ _) _) (ownFrom_below (Nat.le_refl _) (by omega))) (fun _ _ _ _ _ hs _ _ => hs) ⟨b1, hB0⟩ _ ?assign ?body ?done ?stop
  case assign =>
    intro l x v W K hK
    gi_wp2
    exact hK
  case body =>
    rintro l pre ⟨q, B⟩ v W ⟨c1, hB⟩ hbat ⟨r, hr⟩
    obtain ⟨h1, h2, h3⟩ := AtP.fit hr
    obtain ⟨A5, c5, rfl, _⟩ := hbat
    have hsn : Hid (whF (pre ++ [(q, B)]) = whF pre + (B.length + 8)) := whF_snoc pre (q, B)
    obtain ⟨k, hk⟩ : ∃ k, k = B.length := ⟨_, rfl⟩
    have h1' : q = whF pre := h1
    have h2' : k + 8 ≤ 1000 := by rw [hk]; have : B.length + 8 ≤ L.length := h2; have := HM.out; omega
    have h3' : q ≤ 1000 := by have := HM.out; omega
    obtain ⟨s, hs⟩ : ∃ s, s = q + k + 8 := ⟨_, rfl⟩
    have e1 : (q : Int) + (k : Int) + 8 = (s : Int) := by omega
    have HS : Hid (whF (pre ++ [(q, B)]) = s) := by show _ = _; rw [hsn.out, hs, hk, ← h1']; omega
    have d1 := c1.cell
    have f1 := c1.frozen
    rw [← hk]
    clear h1 h2 h3 hsn hr hs hk h1'
    gi_wp2
    refine ⟨KS.set (by simp) _, ?_, hB.setCell (p := ⟨w.heap.size, 0, none⟩) (Nat.le_refl _) _⟩
    rw [HS.out]
    exact c1.set _
  case done =>
    rintro D W hD ⟨c1, hB⟩ hK
    have d1 := c1.cell
    gi_wp2
    refine ⟨by simp, .inl ⟨_, _, rfl, run_takeDeferred hK, ?_⟩⟩
    exact ⟨_, results_tmp rfl _ _ _, rfl, hB.trans (belowK_b (w := w) (Nat.le_refl _) W D _ _ (by omega) hK rfl rfl)⟩
  case stop =>
    rintro D c pre r W _ _ h _
    exact h.elim
end Go.Proofs.Ytmcoinfdgidblaa.Fr
