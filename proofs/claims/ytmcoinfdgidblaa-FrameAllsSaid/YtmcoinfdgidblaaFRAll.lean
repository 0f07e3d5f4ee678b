/-
  The contract of the reference's All. Conditions: at most a thousand bytes.
-/
import Derived.Test.YtmcoinfdgidblaaFIt1
import Derived.Test.YtmcoinfdgidblaaFSmI
namespace Go.Proofs.Ytmcoinfdgidblaa.Fr
open Go.RowKit

theorem intInf : (Try.prog.info? 3).map (fun i => (i.zero, i.size, i.bytes)) = some (some (.int .i64 0), 1, 8) := by kernel_rfl
def ivs (xs : List Fr) : List Value := xs.map fun x => .int .i64 (x.1 : Int)
theorem ivs_len (xs : List Fr) : (ivs xs).length = xs.length := by simp [ivs]
theorem ivs_snoc (xs : List Fr) (x : Fr) : ivs (xs ++ [x]) = ivs xs ++ [.int .i64 (x.1 : Int)] := by simp [ivs]
/-- Bytes that lie in what was there at first. -/
theorem BAt.back {w w' : World} {v : Value} {l : List Int} (h : BAt w' v l) (hk : BK (fun k => k < w.heap.size) v l) (hb : Below w.heap.size w w') : BAt w v l := by
  obtain ⟨A, cap, h1, h2, h3⟩ := h
  refine ⟨A, cap, h1, h2, fun hp => ?_⟩
  obtain ⟨g, o, h4, h5, h6⟩ := h3 hp
  have h7 : g < w.heap.size := hk hp ⟨g, o, none⟩ l.length cap (by rw [h1, h4])
  exact ⟨g, o, h4, h7, fun i hi => (hb.cell (p := ⟨g, o + i, none⟩) h7).symm.trans (h6 i hi)⟩
theorem rnext_kt (K : Nat → Prop) (w : World) (v : Value) (L B : List Int) (k N : Nat) (E : Int) (h : BAt w v L) (hb : bok L) (hn : L.length ≤ 2000000) (hK : BK K v L) (hr : NxR L B k N E) :
    Calls Try.prog 16 #[v] w fun e w' => ∃ A c, e = .returned (.tuple #[.slice A k c, .int .i64 (N : Int), .int .i64 E]) ∧ BAt w' (.slice A k c) B ∧ BK K (.slice A k c) B ∧ Below w.heap.size w w' :=
  (rnext_in K w v L h hb hn hK).mono fun e w' ⟨⟨A, c, h1, h2, h3⟩, h4⟩ => by
    rw [hr.b, hr.k, hr.n, hr.e] at h1
    rw [hr.b, hr.k] at h2 h3
    exact ⟨A, c, h1, h2, h3, h4⟩
theorem row_other {w w1 : World} {base base' : Nat} {e e' : TypeId} {size size' n n' : Nat} {v v' : Value} {xs xs' : List Value} {o : Obj} (h : w.ownsRow base e size v n xs) (h' : w.ownsRow base' e' size' v' n' xs') (hne : e ≠ e') (hg : (w.alloc o).grownBy w1 v.ownBlock) : w1.ownsRow base' e' size' v' n' xs' :=
  ownsRow_kept h' fun g hgg => by
    rw [hg.block g (by have := (h'.lt g hgg).2; simp; omega) (fun e => own_apart h h' hne g hgg e.symm)]
    exact Below.heap_alloc _ _ _ (h'.lt g hgg).2
/-- What All has gathered. -/
structure RaI (w : World) (L : List Int) (pre : List Fr) (us : List Value) (v4 v5 : Value) (q : Nat) (wx : World) : Prop where
  at' : AtP L pre q
  len : us.length = pre.length
  ints : wx.ownsRow w.heap.size 3 1 v4 pre.length (ivs pre)
  rows : wx.ownsRow w.heap.size 23 1 v5 pre.length us
  bat : ∀ j u, us[j]? = some u → BAt w u (pre.getD j (0, [])).2
  bel : Below w.heap.size w wx
theorem RaI.kept {w wx wx' : World} {L : List Int} {pre : List Fr} {us : List Value} {v4 v5 : Value} {q : Nat} (h : RaI w L pre us v4 v5 q wx) (hb : Below wx.heap.size wx wx') : RaI w L pre us v4 v5 q wx' :=
  ⟨h.at', h.len, own_same h.ints hb, own_same h.rows hb, h.bat, h.bel.trans (hb.mono h.bel.size)⟩
theorem tys_ne2 : (3 : TypeId) ≠ 23 := by decide
/-- Both rows are one longer. -/
theorem RaI.next {w wx w1 w2 : World} {L : List Int} {pre : List Fr} {us : List Value} {v4 v5 v4' v5' u : Value} {q q' : Nat} {x : Fr} {o1 o2 : Obj} (h : RaI w L pre us v4 v5 q wx) (hat : AtP L (pre ++ [x]) q') (hu : BAt w u x.2)
    (h1 : w1.ownsRow w.heap.size 3 1 v4' (pre.length + 1) (ivs pre ++ [.int .i64 (x.1 : Int)])) (g1 : (wx.alloc o1).grownBy w1 v4.ownBlock) (h2 : w2.ownsRow w.heap.size 23 1 v5' (pre.length + 1) (us ++ [u])) (g2 : (w1.alloc o2).grownBy w2 v5.ownBlock) :
    RaI w L (pre ++ [x]) (us ++ [u]) v4' v5' q' w2 := by
  have r1 : w1.ownsRow w.heap.size 23 1 v5 pre.length us := row_other h.ints h.rows tys_ne2 g1
  have b1 : Below w.heap.size w w1 := (h.bel.alloc h.bel.size _).grown g1 (Nat.le_trans h.bel.size (by simp)) (fun j hj => (h.ints.lt j hj).1)
  refine ⟨hat, by rw [List.length_append, List.length_append, h.len]; rfl, ?_, ?_, fun j u' hu' => ?_, (b1.alloc b1.size _).grown g2 (Nat.le_trans b1.size (by simp)) (fun j hj => (r1.lt j hj).1)⟩
  · rw [List.length_append, ivs_snoc]
    exact row_other r1 h1 (fun e => tys_ne2 e.symm) g2
  · rw [List.length_append]
    exact h2
  · rcases Nat.lt_or_ge j us.length with hj | hj
    · rw [List.getElem?_append_left hj] at hu'
      have e : (pre ++ [x]).getD j (0, []) = pre.getD j (0, []) := by
        simp only [List.getD]
        rw [List.getElem?_append_left (by rw [← h.len]; exact hj)]
      rw [e]
      exact h.bat j u' hu'
    · rw [List.getElem?_append_right hj] at hu'
      have h0 : j - us.length = 0 := by
        rcases Nat.eq_zero_or_pos (j - us.length) with h0 | h0
        · exact h0
        · rw [List.getElem?_eq_none (by simp; omega)] at hu'; cases hu'
      rw [h0] at hu'
      have hj2 : j = pre.length := by have := h.len; omega
      subst hj2
      have hu2 : u = u' := by simpa using hu'
      have e : (pre ++ [x]).getD pre.length (0, []) = x := by simp [List.getD]
      rw [e, ← hu2]
      exact hu

set_option maxRecDepth 100000 in
set_option maxHeartbeats 8000000 in
theorem rall_any (w : World) (A : Option Addr) (m cap : Nat) (L : List Int) (hL : BAt w (.slice A m cap) L) (hb : bok L) (hm : m ≤ 1000) :
    Calls Try.prog 17 #[.slice A m cap] w fun e w' => ∃ v1 v2 us q, e = .returned (.tuple #[v1, v2]) ∧ RaI w L (allF L) us v1 v2 q w' := by
  obtain ⟨i4, hi4, hz40, hz41, hz42⟩ := info_parts intInf
  obtain ⟨i5, hi5, hz50, hz51, hz52⟩ := info_parts byInf
  have hlm := hL.len.1
  have hcap := hL.len.2
  have hBK : BK (fun k => k < w.heap.size) (.slice A m cap) L := fun hp a n c ha => by
    obtain ⟨A', c', h1, h2, h3⟩ := hL
    obtain ⟨g, o, h4, h5, _⟩ := h3 hp
    cases ha; cases h1; cases h4
    exact h5
  have HL := Lib.hid hL
  have HD : Hid (bok L ∧ L.length = m ∧ BK (fun k => k < w.heap.size) (.slice A m cap) L) := ⟨hb, hlm, hBK⟩
  clear hL hb hlm hBK
  go_enter Try.func17, Try.ntmps17
  go_wp2
  go_loopg [4, 5, 6] 1001 (fun (gh : Nat) s4 s5 s6 wx => ∃ (q : Nat) (pre : List Fr) (us : List Value), gh = 1001 - q ∧ q ≤ m ∧ s6 = .int .i64 (q : Int) ∧ Hid (RaI w L pre us s4 s5 q wx))
  case atStart => exact ⟨0, [], [], rfl, Nat.zero_le _, rfl, AtP.start L, rfl, World.ownsRow_nil _ _ _ _, World.ownsRow_nil _ _ _ _, fun j u hu => by simp at hu, Below.refl _ _⟩
  case round =>
    obtain ⟨q, pre, us, rfl, hq, rfl, hI⟩ := hrel
    obtain ⟨A', hA', hs⟩ := slice_from A m cap q hq hcap
    have hBr : BAt wr (.slice A' (m - q) (cap - q)) (L.drop q) := (HL.out.kept hI.out.bel).from q hA' hq
    have hBKr : BK (fun k => k < w.heap.size) (.slice A' (m - q) (cap - q)) (L.drop q) := fun hp a n c ha => by
      have h1 : q < m := by rw [List.length_drop] at hp; have := HD.out.2.1; omega
      obtain ⟨A2, c', h2, h3, h4⟩ := HL.out
      obtain ⟨g, o, h5, h6, _⟩ := h4 (by have := HD.out.2.1; omega)
      cases h2
      rw [hA' h1 g o h5] at ha
      cases ha
      exact h6
    obtain ⟨B, k, N, E, hR⟩ := nx_some (L.drop q)
    have HF := Lib.hid (rnext_kt _ wr _ (L.drop q) B k N E hBr (bok_drop HD.out.1 q) (by rw [List.length_drop]; have := HD.out.2.1; omega) hBKr hR)
    have HR := Lib.hid hR
    obtain ⟨r1, hr1⟩ : ∃ r1, r1 = m - q := ⟨_, rfl⟩
    obtain ⟨r2, hr2⟩ : ∃ r2, r2 = cap - q := ⟨_, rfl⟩
    rw [← hr1, ← hr2] at hs HF
    have hm9 : q ≤ 1000 := by omega
    clear hBr hR hA' hr1 hr2 hBKr
    by_cases hE : E = 0
    · have hN : N ≤ 1000 ∧ 8 ≤ N ∧ q + N ≤ m := by
        have h1 : nxE (L.drop q) = 0 := by rw [HR.out.e]; exact hE
        have h2 := nxN_ok h1
        rw [List.length_drop, HR.out.n, HD.out.2.1] at h2
        omega
      have HX : Hid (AtP L (pre ++ [(q, B)]) (q + N)) := by
        have h1 : nxE (L.drop q) = 0 := by rw [HR.out.e]; exact hE
        have h2 := hI.out.at'.step h1
        rw [HR.out.b, HR.out.n] at h2
        exact h2.1
      have hpl : pre.length ≤ 1000 := by
        have h1 := hI.out.at'
        obtain ⟨kk, h2, _⟩ := h1
        have h3 := allF_len L
        rw [h2, List.length_append, HD.out.2.1] at h3
        omega
      subst hE
      have hn1 : N ≤ 1000 := hN.1
      have HN := Lib.hid hN
      have hz0 := hI.out.bel.size
      clear hN
      go_wp2_with (first
        | (at_builtin; refine wpList_append_lies _ rfl _ _ 22 rfl w.heap.size 23 i5 _ 1 24 Try.underlying22 hi5 hz50 hz51 hz52 rfl (by decide) _ _ _ rfl (HR5.out.alloc _) ⟨w2.heap.size, 0, none⟩ 1 1 [.slice A1 k c1] rfl rfl (World.news_of_block (cs := #[.slice A1 k c1]) (t := 23) (fr := (0, 0)) (heap_alloc_new _ _)) (by simp [Value.oneCell']) (by decide) (by unfold maxLen; omega) (by omega) (by simp; omega) _ rfl ?_; intro gg5 cp5 w3 hown5 hgrow5 hat5 hlt5
           have S3 := Lib.hid (HI1.out.next HX.out HU.out HO4.out HG4.out hown5 hgrow5)
           clear hown5 hgrow5 hat5 hlt5)
        | (at_builtin; refine wpList_append_lies _ rfl _ _ 40 rfl w.heap.size 3 i4 _ 1 8 Try.underlying40 hi4 hz40 hz41 hz42 rfl (by decide) _ _ _ rfl (HI1.out.ints.alloc _) ⟨w1.heap.size, 0, none⟩ 1 1 [.int .i64 (q : Int)] rfl rfl (World.news_of_block (cs := #[.int .i64 (q : Int)]) (t := 3) (fr := (0, 0)) (heap_alloc_new _ _)) (by simp [Value.oneCell']) (by decide) (by unfold maxLen; omega) (by omega) (by simp; omega) _ rfl ?_; intro gg4 cp4 w2 hown4 hgrow4 hat4 hlt4
           have HO4 := Lib.hid hown4
           have HG4 := Lib.hid hgrow4
           have HR5 := Lib.hid (row_other HI1.out.ints HI1.out.rows tys_ne2 hgrow4)
           have hz2 : w.heap.size ≤ w2.heap.size := (by have h1 := hgrow4.size; simp at h1; omega)
           clear hown4 hgrow4 hat4 hlt4)
        | (go_at_call 16; refine HF.out.mono ?_; rintro e w1 ⟨A1, c1, rfl, ha1, hk1, b1⟩
           have HI1 := Lib.hid (hI.out.kept b1)
           have HU := Lib.hid (ha1.back hk1 HI1.out.bel)
           have hz1 : w.heap.size ≤ w1.heap.size := HI1.out.bel.size
           clear ha1 hk1 b1))
      have hq2 : q + N ≤ 1000 := by have := HN.out; omega
      go_roundg (1001 - (q + N))
      case measure => have := HN.out; omega
      case rel => exact ⟨q + N, _, _, rfl, by have := HN.out; omega, by go_num, S3⟩
    · have HE : Hid (allF L = pre) := hI.out.at'.done (by rw [HR.out.e]; exact hE)
      go_wp2_with (go_at_call 16; refine HF.out.mono ?_; rintro e w1 ⟨A1, c1, rfl, ha1, hk1, b1⟩
                   have HI1 := Lib.hid (hI.out.kept b1)
                   clear ha1 hk1 b1)
      go_ret2
      refine ⟨u4, u5, us, q, rfl, ?_⟩
      rw [HE.out]
      exact HI1.out
end Go.Proofs.Ytmcoinfdgidblaa.Fr
