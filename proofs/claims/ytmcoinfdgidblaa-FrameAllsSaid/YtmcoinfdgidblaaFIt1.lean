/-
  The contracts of frames, and of the function that it gives. Conditions: at most a thousand bytes.
-/
import Derived.Test.YtmcoinfdgidblaaFIter
namespace Go.Proofs.Ytmcoinfdgidblaa.Fr
open Go.RowKit Go.Shelf
attribute [local go_sem] Oper.semAt_some

theorem BAt.ks {K : Nat → Prop} {w w' : World} {v : Value} {l : List Int} (h : BAt w v l) (hk : BK K v l) (hs : KS K w w') : BAt w' v l := by
  obtain ⟨A, cap, h1, h2, h3⟩ := h
  refine ⟨A, cap, h1, h2, fun hp => ?_⟩
  obtain ⟨g, o, h4, h5, h6⟩ := h3 hp
  refine ⟨g, o, h4, Nat.lt_of_lt_of_le h5 hs.1, fun i hi => ?_⟩
  have h7 := hk hp ⟨g, o, none⟩ l.length cap (by rw [h1, h4])
  have h8 := h6 i hi
  simp only [World.cell?] at h8 ⊢
  rw [hs.2 g h7 h5]
  exact h8
theorem own_below {β : Type} {B : Nat} {J : β → World → Prop} (h : OwnFrom B J) {s : β} {W W' : World} (hs : J s W) (hb : Below W.heap.size W W') : J s W' :=
  h s W W' none hs (grownBy_of_below none hb) (fun r e => by cases e)
theorem frames_any (w : World) (A : Option Addr) (m c : Nat) :
    Calls Try.prog 28 #[.slice A m c] w fun e w' => e = .returned (.func (.func 30) #[] #[.pointer (some ⟨w.heap.size, 0, none⟩)]) ∧ w' = w.alloc (.cells #[.slice A m c] 23) := by
  go_enter Try.func28, Try.ntmps28
  go_wp2
  go_ret
  exact ⟨rfl, rfl⟩

set_option maxRecDepth 100000 in
set_option maxHeartbeats 4000000 in
theorem frames1_seq (n : Nat) (hn : 2 ≤ n) (K : Nat → Prop) (Bs : Nat) (w : World) (A : Option Addr) (m cap : Nat) (L : List Int) (hBs : w.heap[Bs]? = some (.cells #[.slice A m cap] 23 (0, 0))) (hKB : K Bs) (hL : BAt w (.slice A m cap) L) (hK : BK K (.slice A m cap) L) (hb : bok L) (hm : m ≤ 1000) :
    OSeq Fence.wide n Try.prog 30 #[.pointer (some ⟨Bs, 0, none⟩)] K (allF L) w := by
  intro l J Jx W hW hJ hJx hY h0
  have hn0 : 1 ≤ n := by omega
  have hlm := hL.len.1
  have hcap := hL.len.2
  have HBs := Lib.hid (block_kept hBs hW)
  have HL := Lib.hid (hL.kept hW)
  have HD : Hid (bok L ∧ L.length = m ∧ K Bs ∧ BK K (.slice A m cap) L) := ⟨hb, hlm, hKB, hK⟩
  have HY := Lib.hid hY
  have HJ := Lib.hid hJ
  clear hY hL hK hb hBs hlm hKB hW hJ hJx
  refine callsIn_of_wp Try.func30 rfl trivial ?_ rfl
  simp only [Try.ntmps30, List.size_toArray, List.length_cons, List.length_nil, Nat.reduceAdd, Nat.reduceSub, Array.replicate_succ, Array.replicate_zero, List.push_toArray, List.append_toArray, List.nil_append, List.cons_append]
  gi_wp2
  gi_loopw [3] (fun p wr => ∃ (q : Nat) (pre : List Fr), p = .int .i64 (q : Int) ∧ Hid (AtP L pre q ∧ J pre wr ∧ KS K W wr)) (fun p _ => L.length + 1 - (intOf p).toNat)
  case atStart => exact ⟨0, [], rfl, AtP.start L, h0, KS.refl _ _⟩
  case round =>
    obtain ⟨q, pre, rfl, hinv⟩ := hrel
    have hq : q ≤ m := by rw [← HD.out.2.1]; exact hinv.out.1.le
    obtain ⟨A', hA', hs⟩ := slice_from A m cap q hq hcap
    have hbs : wr.heap[Bs]? = some (.cells #[.slice A m cap] 23 (0, 0)) := (hinv.out.2.2.2 Bs HD.out.2.2.1 (Array.getElem?_eq_some_iff.1 HBs.out).1).trans HBs.out
    have c0 := (block_cell hbs).1
    have hBr : BAt wr (.slice A' (m - q) (cap - q)) (L.drop q) := (HL.out.ks HD.out.2.2.2 hinv.out.2.2).from q hA' hq
    obtain ⟨B, k, N, E, hR⟩ := nx_some (L.drop q)
    have HF := Lib.hid (callsIn_wide (n := n - 1).2 (first_at wr _ (L.drop q) B k N E hBr (bok_drop HD.out.1 q) (by rw [List.length_drop]; have := HD.out.2.1; omega) hR))
    have HR := Lib.hid hR
    obtain ⟨r1, hr1⟩ : ∃ r1, r1 = m - q := ⟨_, rfl⟩
    obtain ⟨r2, hr2⟩ : ∃ r2, r2 = cap - q := ⟨_, rfl⟩
    rw [← hr1, ← hr2] at hs HF
    have hm9 : q ≤ 1000 := by omega
    clear hBr hR hbs hA' hr1 hr2
    by_cases hE : E = 0
    · have hN : N ≤ 1000 ∧ 8 ≤ N ∧ q + N ≤ m := by
        have h1 : nxE (L.drop q) = 0 := by rw [HR.out.e]; exact hE
        have h2 := nxN_ok h1
        rw [List.length_drop, HR.out.n, HD.out.2.1] at h2
        omega
      have HX : Hid ((∃ r, allF L = pre ++ (q, B) :: r) ∧ AtP L (pre ++ [(q, B)]) (q + N)) := by
        have h1 : nxE (L.drop q) = 0 := by rw [HR.out.e]; exact hE
        have h2 := hinv.out.1.step h1
        rw [HR.out.b, HR.out.n] at h2
        exact ⟨h2.2, h2.1⟩
      subst hE
      have hn1 : N ≤ 1000 := hN.1
      have HN := Lib.hid hN
      clear hN
      gi_wp2_with (refine ⟨trivial, ?_⟩; gi_at_call 24; refine HF.out.mono ?_; rintro e w1 ⟨A1, c1, rfl, ha1, b1⟩
                   obtain ⟨fn, tmps, assign, body, hy, hR⟩ := HY.out pre (q, B) (.slice A1 k c1) w1 (own_below HJ.out hinv.out.2.1 b1) ha1 HX.out.1
                   dsimp only at hy
                   have HB1 := Lib.hid b1
                   clear ha1 b1)
      refine hR.mono ?_
      rintro e W3 (⟨rfl, hJ3, hk3⟩ | ⟨rfl, hJx3, _⟩)
      · have HJ3 := Lib.hid hJ3
        have HK3 := Lib.hid ((hinv.out.2.2.trans (KS.of_below HB1.out)).trans hk3)
        have hq2 : q + N ≤ 1000 := by have := HN.out; omega
        clear hJ3 hk3 hy hR hinv
        gi_wp2
        go_roundw
        case rel => exact ⟨q + N, _, by go_num, HX.out.2, HJ3.out, HK3.out⟩
        case measure => simp [intOf]; have := HN.out; have := HD.out.2.1; omega
      · have HJ3 := Lib.hid hJx3
        clear hJx3 hy hR
        gi_wp2
        refine bodyPost_ret (results_none rfl _ _ _) rfl ?_
        obtain ⟨r, hr⟩ := HX.out.1
        exact ⟨⟨_, rfl⟩, .inr ⟨_, ⟨r, by rw [hr]; simp⟩, HJ3.out⟩⟩
    · have hEb : (E != 0) = true := by simp [hE]
      have HE : Hid (allF L = pre) := hinv.out.1.done (by rw [HR.out.e]; exact hE)
      gi_wp2_with (refine ⟨trivial, ?_⟩; gi_at_call 24; refine HF.out.mono ?_; rintro e w1 ⟨A1, c1, rfl, ha1, b1⟩
                   have HJ1 := Lib.hid (own_below HJ.out hinv.out.2.1 b1)
                   clear ha1 b1)
      refine ⟨fun _ h => (by cases h), ?_⟩
      gi_wp2
      refine bodyPost_ret (results_none rfl _ _ _) rfl ?_
      exact ⟨⟨_, rfl⟩, .inl (by rw [HE.out]; exact HJ1.out)⟩
end Go.Proofs.Ytmcoinfdgidblaa.Fr
