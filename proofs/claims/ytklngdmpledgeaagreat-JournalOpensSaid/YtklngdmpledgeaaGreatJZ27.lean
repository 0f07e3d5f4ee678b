/-
  FrameSums answers true for all slices of bytes and all bytes. Conditions: none.
-/
import Derived.Test.YtklngdmpledgeaaGreatJZ4
import Derived.Test.YtklngdmpledgeaaGreatJZ26
namespace Go.Proofs.YtklngdmpledgeaaGreat.Fr
open Go.RowKit

/-- The first parts, at most 200 bytes of each. -/
def cutR (ls : List (List Int)) (i : Nat) : List (List Int) := (ls.take i).map (·.take 200)
theorem cutR_snoc {ls : List (List Int)} {i : Nat} (h : i < ls.length) : cutR ls (i + 1) = cutR ls i ++ [(ls.getD i []).take 200] := by
  have e : ls.getD i [] = ls[i] := by simp [List.getD, List.getElem?_eq_getElem h]
  unfold cutR
  rw [List.take_succ_eq_append_getElem h, List.map_append, e]
  rfl
theorem cutR_len {ls : List (List Int)} {i : Nat} (h : i ≤ ls.length) : (cutR ls i).length = i := by
  unfold cutR
  rw [List.length_map, List.length_take]; omega
theorem cutR_flat {ls : List (List Int)} {i : Nat} (h : i < ls.length) : (cutR ls (i + 1)).flatten = (cutR ls i).flatten ++ (ls.getD i []).take 200 := by
  rw [cutR_snoc h, List.flatten_append, List.flatten_cons, List.flatten_nil, List.append_nil]
theorem cutR_small (ls : List (List Int)) (i : Nat) (h : i ≤ ls.length) : (cutR ls i).flatten.length ≤ 200 * i := by
  induction i with
  | zero => simp [cutR]
  | succ i ih =>
    rw [cutR_flat (by omega), List.length_append, List.length_take]
    have := ih (by omega)
    omega
theorem cutR_bok {ls : List (List Int)} (h : ∀ l ∈ ls, bok l) (i : Nat) : ∀ l ∈ cutR ls i, bok l ∧ l.length ≤ 2000000 := fun l hl => by
  unfold cutR at hl
  obtain ⟨m, hm, rfl⟩ := List.mem_map.1 hl
  exact ⟨bok_take (h m (List.mem_of_mem_take hm)) _, by rw [List.length_take]; omega⟩
theorem cutR_flat_bok {ls : List (List Int)} (h : ∀ l ∈ ls, bok l) (i : Nat) : bok (cutR ls i).flatten := fun x hx => by
  obtain ⟨l, hl, hx2⟩ := List.mem_flatten.1 hx
  exact (cutR_bok h i l hl).1 x hx2
theorem cutR_get {ls : List (List Int)} {i j : Nat} (hj : j < i) (hi : i ≤ ls.length) : (cutR ls i).getD j [] = (ls.getD j []).take 200 := by
  unfold cutR
  simp only [List.getD, List.getElem?_map]
  rw [List.getElem?_take_of_lt hj, List.getElem?_eq_getElem (by omega : j < ls.length)]
  rfl

theorem ownsRow_kept {w w' : World} {base : Nat} {e : TypeId} {size n : Nat} {v : Value} {xs : List Value} (h : w.ownsRow base e size v n xs) (hk : ∀ g, v.ownBlock = some g → w'.heap[g]? = w.heap[g]?) : w'.ownsRow base e size v n xs := by
  obtain ⟨h1, h2 | ⟨g, cap, cur, h2, h3, h4, h5⟩⟩ := h
  · exact ⟨h1, .inl h2⟩
  · exact ⟨h1, .inr ⟨g, cap, cur, h2, h3, (hk g (by rw [h2]; rfl)).trans h4, h5⟩⟩
/-- Two rows of the call's own: the parts, and all bytes. -/
structure SmI (w : World) (ls : List (List Int)) (i : Nat) (us : List Value) (v5 v6 : Value) (wx : World) : Prop where
  len : us.length = i
  own : wx.ownsRow w.heap.size 22 1 v5 i us
  at' : ∀ j u, us[j]? = some u → BAt w u ((ls.getD j []).take 200)
  all : wx.ownsRow w.heap.size 5 1 v6 (cutR ls i).flatten.length (bv (cutR ls i).flatten)
  bel : Below w.heap.size w wx
theorem own_apart {w : World} {base base' : Nat} {e e' : TypeId} {size size' n n' : Nat} {v v' : Value} {xs xs' : List Value} (h : w.ownsRow base e size v n xs) (h' : w.ownsRow base' e' size' v' n' xs') (hne : e ≠ e') : ∀ g, v'.ownBlock = some g → v.ownBlock ≠ some g := by
  intro g hg hh
  rcases h.2 with ⟨h1, _⟩ | ⟨g1, _, _, h1, _, h2, _⟩
  · rw [h1] at hh; cases hh
  · rcases h'.2 with ⟨h3, _⟩ | ⟨g2, _, _, h3, _, h4, _⟩
    · rw [h3] at hg; cases hg
    · rw [h1] at hh; rw [h3] at hg
      cases hh; cases hg
      rw [h2] at h4
      cases h4
      exact hne rfl
theorem tys_ne : (22 : TypeId) ≠ 5 := by decide
/-- The parts' row has grown. -/
theorem SmI.rows1 {w wx w1 : World} {ls : List (List Int)} {i : Nat} {us : List Value} {v5 v6 v : Value} {u : Value} {o : Obj} (h : SmI w ls i us v5 v6 wx) (hu : BAt w u ((ls.getD i []).take 200)) (hown : w1.ownsRow w.heap.size 22 1 v (i + 1) (us ++ [u])) (hg : (wx.alloc o).grownBy w1 v5.ownBlock) :
    (us ++ [u]).length = i + 1 ∧ (∀ j u', (us ++ [u])[j]? = some u' → BAt w u' ((ls.getD j []).take 200)) ∧ w1.ownsRow w.heap.size 5 1 v6 (cutR ls i).flatten.length (bv (cutR ls i).flatten) ∧ Below w.heap.size w w1 := by
  refine ⟨by rw [List.length_append, h.len]; rfl, fun j u' hu' => ?_, ownsRow_kept h.all (fun g hgg => ?_), (h.bel.alloc h.bel.size _).grown hg (Nat.le_trans h.bel.size (by simp)) (fun j hj => (h.own.lt j hj).1)⟩
  · rcases Nat.lt_or_ge j us.length with hj | hj
    · rw [List.getElem?_append_left hj] at hu'
      exact h.at' j u' hu'
    · rw [List.getElem?_append_right hj] at hu'
      have h0 : j - us.length = 0 := by
        rcases Nat.eq_zero_or_pos (j - us.length) with h0 | h0
        · exact h0
        · rw [List.getElem?_eq_none (by simp; omega)] at hu'; cases hu'
      rw [h0] at hu'
      have hj2 : j = i := by have := h.len; omega
      subst hj2
      have hu2 : u = u' := by simpa using hu'
      rw [← hu2]
      exact hu
  · rw [hg.block g (by have := (h.all.lt g hgg).2; simp; omega) (fun e => own_apart h.own h.all tys_ne g hgg e.symm)]
    exact Below.heap_alloc _ _ _ (h.all.lt g hgg).2
/-- Both rows have grown. -/
theorem SmI.rows2 {w w1 w2 : World} {ls : List (List Int)} {i : Nat} {us : List Value} {v5 v6 v6' : Value} (hl : us.length = i + 1) (hi : i < ls.length) (hown : w1.ownsRow w.heap.size 22 1 v5 (i + 1) us) (hat : ∀ j u', us[j]? = some u' → BAt w u' ((ls.getD j []).take 200)) (hall : w1.ownsRow w.heap.size 5 1 v6 (cutR ls i).flatten.length (bv (cutR ls i).flatten)) (hbel : Below w.heap.size w w1)
    (ho2 : w2.ownsRow w.heap.size 5 1 v6' ((cutR ls i).flatten ++ (ls.getD i []).take 200).length (bv ((cutR ls i).flatten ++ (ls.getD i []).take 200))) (hg : w1.grownBy w2 v6.ownBlock) : SmI w ls (i + 1) us v5 v6' w2 :=
  ⟨hl, ownsRow_kept hown (fun g hgg => hg.block g (hown.lt g hgg).2 (fun e => own_apart hall hown (fun e => tys_ne e.symm) g hgg e.symm)), hat,
    by rw [cutR_flat hi]; exact ho2, hbel.grown hg hbel.size (fun j hj => (hall.lt j hj).1)⟩
/-- The parts as Sum takes them. -/
theorem SmI.parts {w wx : World} {ls : List (List Int)} {i : Nat} {us : List Value} {v5 v6 : Value} (h : SmI w ls i us v5 v6 wx) (hi : i ≤ ls.length) : PAt wx v5 (cutR ls i) := by
  have hl := cutR_len hi
  rcases h.own.2 with ⟨h1, h2⟩ | ⟨g, cap, cur, h1, _, h3, h4, _⟩
  · exact ⟨none, 0, by rw [h1, hl, h2], by omega, fun hp => by omega⟩
  · refine ⟨_, cap, by rw [h1, hl], by rw [hl]; exact h4, fun _ => ⟨g, 0, rfl, (Array.getElem?_eq_some_iff.1 h3).1, fun j hj => ?_⟩⟩
    rw [hl] at hj
    have hj2 : j < us.length := by rw [h.len]; exact hj
    have h5 := h.own.cells (g := g) (by rw [h1]; rfl) j _ (List.getElem?_eq_getElem hj2)
    rw [show (Addr.mk g 0 none).add j = ⟨g, 0 + j, none⟩ by unfold Addr.add; split <;> simp_all] at h5
    refine ⟨_, h5, ?_⟩
    rw [cutR_get hj hi]
    exact (h.at' j _ (List.getElem?_eq_getElem hj2)).kept h.bel
end Go.Proofs.YtklngdmpledgeaaGreat.Fr

namespace Go.Proofs.YtklngdmpledgeaaGreat.Fr
open Go.RowKit

theorem intInf : (Tryz.prog.info? 3).map (fun i => (i.zero, i.size, i.bytes)) = some (some (.int .i64 0), 1, 8) := by kernel_rfl
def ivs (xs : List Fr) : List Value := xs.map fun x => .int .i64 (x.1 : Int)
theorem ivs_len (xs : List Fr) : (ivs xs).length = xs.length := by simp [ivs]
theorem ivs_snoc (xs : List Fr) (x : Fr) : ivs (xs ++ [x]) = ivs xs ++ [.int .i64 (x.1 : Int)] := by simp [ivs]
/-- Bytes that lie in what was there at first. -/
theorem BAt.back {w w' : World} {v : Value} {l : List Int} (h : BAt w' v l) (hk : BK (fun k => k < w.heap.size) v l) (hb : Below w.heap.size w w') : BAt w v l := by
  obtain ⟨A, cap, h1, h2, h3⟩ := h
  refine ⟨A, cap, h1, h2, fun hp => ?_⟩
  obtain ⟨g, o, h4, h5, h6⟩ := h3 hp
  have h7 : g < w.heap.size := hk hp ⟨g, o, none⟩ l.length cap (by rw [h1, h4])
  exact ⟨g, o, h4, h7, fun i hi => (hb.cell (p := ⟨g, o + i, none⟩) h7).symm.trans (h6 i hi)⟩
theorem rnext_kt (K : Nat → Prop) (w : World) (v : Value) (L B : List Int) (k N : Nat) (E : Int) (h : BAt w v L) (hb : bok L) (hn : L.length ≤ 2000000) (hK : BK K v L) (hr : NxR L B k N E) :
    Calls Tryz.prog 40 #[v] w fun e w' => ∃ A c, e = .returned (.tuple #[.slice A k c, .int .i64 (N : Int), .int .i64 E]) ∧ BAt w' (.slice A k c) B ∧ BK K (.slice A k c) B ∧ Below w.heap.size w w' :=
  (rnext_in K w v L h hb hn hK).mono fun e w' ⟨⟨A, c, h1, h2, h3⟩, h4⟩ => by
    rw [hr.b, hr.k, hr.n, hr.e] at h1
    rw [hr.b, hr.k] at h2 h3
    exact ⟨A, c, h1, h2, h3, h4⟩
theorem row_other {w w1 : World} {base base' : Nat} {e e' : TypeId} {size size' n n' : Nat} {v v' : Value} {xs xs' : List Value} {o : Obj} (h : w.ownsRow base e size v n xs) (h' : w.ownsRow base' e' size' v' n' xs') (hne : e ≠ e') (hg : (w.alloc o).grownBy w1 v.ownBlock) : w1.ownsRow base' e' size' v' n' xs' :=
  ownsRow_kept h' fun g hgg => by
    rw [hg.block g (by have := (h'.lt g hgg).2; simp; omega) (fun e => own_apart h h' hne g hgg e.symm)]
    exact Below.heap_alloc _ _ _ (h'.lt g hgg).2
/-- What All has gathered. -/
structure RaI (w : World) (L : List Int) (pre : List Fr) (us : List Value) (v4 v5 : Value) (q : Nat) (wx : World) : Prop where
  at' : AtP L pre q
  len : us.length = pre.length
  ints : wx.ownsRow w.heap.size 3 1 v4 pre.length (ivs pre)
  rows : wx.ownsRow w.heap.size 22 1 v5 pre.length us
  bat : ∀ j u, us[j]? = some u → BAt w u (pre.getD j (0, [])).2
  bel : Below w.heap.size w wx
theorem RaI.kept {w wx wx' : World} {L : List Int} {pre : List Fr} {us : List Value} {v4 v5 : Value} {q : Nat} (h : RaI w L pre us v4 v5 q wx) (hb : Below wx.heap.size wx wx') : RaI w L pre us v4 v5 q wx' :=
  ⟨h.at', h.len, own_same h.ints hb, own_same h.rows hb, h.bat, h.bel.trans (hb.mono h.bel.size)⟩
theorem tys_ne2 : (3 : TypeId) ≠ 22 := by decide
/-- Both rows are one longer. -/
theorem RaI.next {w wx w1 w2 : World} {L : List Int} {pre : List Fr} {us : List Value} {v4 v5 v4' v5' u : Value} {q q' : Nat} {x : Fr} {o1 o2 : Obj} (h : RaI w L pre us v4 v5 q wx) (hat : AtP L (pre ++ [x]) q') (hu : BAt w u x.2)
    (h1 : w1.ownsRow w.heap.size 3 1 v4' (pre.length + 1) (ivs pre ++ [.int .i64 (x.1 : Int)])) (g1 : (wx.alloc o1).grownBy w1 v4.ownBlock) (h2 : w2.ownsRow w.heap.size 22 1 v5' (pre.length + 1) (us ++ [u])) (g2 : (w1.alloc o2).grownBy w2 v5.ownBlock) :
    RaI w L (pre ++ [x]) (us ++ [u]) v4' v5' q' w2 := by
  have r1 : w1.ownsRow w.heap.size 22 1 v5 pre.length us := row_other h.ints h.rows tys_ne2 g1
  have b1 : Below w.heap.size w w1 := (h.bel.alloc h.bel.size _).grown g1 (Nat.le_trans h.bel.size (by simp)) (fun j hj => (h.ints.lt j hj).1)
  refine ⟨hat, by rw [List.length_append, List.length_append, h.len]; rfl, ?_, ?_, fun j u' hu' => ?_, (b1.alloc b1.size _).grown g2 (Nat.le_trans b1.size (by simp)) (fun j hj => (r1.lt j hj).1)⟩
  · rw [List.length_append, ivs_snoc]
    exact row_other r1 h1 (fun e => tys_ne2 e.symm) g2
  · rw [List.length_append]
    exact h2
  · rcases Nat.lt_or_ge j us.length with hj | hj
    · rw [List.getElem?_append_left hj] at hu'
      have e : (pre ++ [x]).getD j (0, []) = pre.getD j (0, []) := by
        simp only [List.getD]
        rw [List.getElem?_append_left (by rw [← h.len]; exact hj)]
      rw [e]
      exact h.bat j u' hu'
    · rw [List.getElem?_append_right hj] at hu'
      have h0 : j - us.length = 0 := by
        rcases Nat.eq_zero_or_pos (j - us.length) with h0 | h0
        · exact h0
        · rw [List.getElem?_eq_none (by simp; omega)] at hu'; cases hu'
      rw [h0] at hu'
      have hj2 : j = pre.length := by have := h.len; omega
      subst hj2
      have hu2 : u = u' := by simpa using hu'
      have e : (pre ++ [x]).getD pre.length (0, []) = x := by simp [List.getD]
      rw [e, ← hu2]
      exact hu

set_option maxRecDepth 100000 in
set_option maxHeartbeats 8000000 in
theorem rall_any (w : World) (A : Option Addr) (m cap : Nat) (L : List Int) (hL : BAt w (.slice A m cap) L) (hb : bok L) (hm : m ≤ 1000) :
    Calls Tryz.prog 20 #[.slice A m cap] w fun e w' => ∃ v1 v2 us q, e = .returned (.tuple #[v1, v2]) ∧ RaI w L (allF L) us v1 v2 q w' := by
  obtain ⟨i4, hi4, hz40, hz41, hz42⟩ := info_parts intInf
  obtain ⟨i5, hi5, hz50, hz51, hz52⟩ := info_parts byInf
  have hlm := hL.len.1
  have hcap := hL.len.2
  have hBK : BK (fun k => k < w.heap.size) (.slice A m cap) L := fun hp a n c ha => by
    obtain ⟨A', c', h1, h2, h3⟩ := hL
    obtain ⟨g, o, h4, h5, _⟩ := h3 hp
    cases ha; cases h1; cases h4
    exact h5
  have HL := Lib.hid hL
  have HD : Hid (bok L ∧ L.length = m ∧ BK (fun k => k < w.heap.size) (.slice A m cap) L) := ⟨hb, hlm, hBK⟩
  clear hL hb hlm hBK
  go_enter Tryz.func20, Tryz.ntmps20
  go_wp2
  go_loopg [4, 5, 6] 1001 (fun (gh : Nat) s4 s5 s6 wx => ∃ (q : Nat) (pre : List Fr) (us : List Value), gh = 1001 - q ∧ q ≤ m ∧ s6 = .int .i64 (q : Int) ∧ Hid (RaI w L pre us s4 s5 q wx))
  case atStart => exact ⟨0, [], [], rfl, Nat.zero_le _, rfl, AtP.start L, rfl, World.ownsRow_nil _ _ _ _, World.ownsRow_nil _ _ _ _, fun j u hu => by simp at hu, Below.refl _ _⟩
  case round =>
    obtain ⟨q, pre, us, rfl, hq, rfl, hI⟩ := hrel
    obtain ⟨A', hA', hs⟩ := slice_from A m cap q hq hcap
    have hBr : BAt wr (.slice A' (m - q) (cap - q)) (L.drop q) := (HL.out.kept hI.out.bel).from q hA' hq
    have hBKr : BK (fun k => k < w.heap.size) (.slice A' (m - q) (cap - q)) (L.drop q) := fun hp a n c ha => by
      have h1 : q < m := by rw [List.length_drop] at hp; have := HD.out.2.1; omega
      obtain ⟨A2, c', h2, h3, h4⟩ := HL.out
      obtain ⟨g, o, h5, h6, _⟩ := h4 (by have := HD.out.2.1; omega)
      cases h2
      rw [hA' h1 g o h5] at ha
      cases ha
      exact h6
    obtain ⟨B, k, N, E, hR⟩ := nx_some (L.drop q)
    have HF := Lib.hid (rnext_kt _ wr _ (L.drop q) B k N E hBr (bok_drop HD.out.1 q) (by rw [List.length_drop]; have := HD.out.2.1; omega) hBKr hR)
    have HR := Lib.hid hR
    obtain ⟨r1, hr1⟩ : ∃ r1, r1 = m - q := ⟨_, rfl⟩
    obtain ⟨r2, hr2⟩ : ∃ r2, r2 = cap - q := ⟨_, rfl⟩
    rw [← hr1, ← hr2] at hs HF
    have hm9 : q ≤ 1000 := by omega
    clear hBr hR hA' hr1 hr2 hBKr
    by_cases hE : E = 0
    · have hN : N ≤ 1000 ∧ 8 ≤ N ∧ q + N ≤ m := by
        have h1 : nxE (L.drop q) = 0 := by rw [HR.out.e]; exact hE
        have h2 := nxN_ok h1
        rw [List.length_drop, HR.out.n, HD.out.2.1] at h2
        omega
      have HX : Hid (AtP L (pre ++ [(q, B)]) (q + N)) := by
        have h1 : nxE (L.drop q) = 0 := by rw [HR.out.e]; exact hE
        have h2 := hI.out.at'.step h1
        rw [HR.out.b, HR.out.n] at h2
        exact h2.1
      have hpl : pre.length ≤ 1000 := by
        have h1 := hI.out.at'
        obtain ⟨kk, h2, _⟩ := h1
        have h3 := allF_len L
        rw [h2, List.length_append, HD.out.2.1] at h3
        omega
      subst hE
      have hn1 : N ≤ 1000 := hN.1
      have HN := Lib.hid hN
      have hz0 := hI.out.bel.size
      clear hN
      go_wp2_with (first
        | (at_builtin; refine wpList_append_lies _ rfl _ _ 56 rfl w.heap.size 22 i5 _ 1 24 Tryz.underlying56 hi5 hz50 hz51 hz52 rfl (by decide) _ _ _ rfl (HR5.out.alloc _) ⟨w2.heap.size, 0, none⟩ 1 1 [.slice A1 k c1] rfl rfl (World.news_of_block (cs := #[.slice A1 k c1]) (t := 22) (fr := (0, 0)) (heap_alloc_new _ _)) (by simp [Value.oneCell']) (by decide) (by unfold maxLen; omega) (by omega) (by simp; omega) _ rfl ?_; intro gg5 cp5 w3 hown5 hgrow5 hat5 hlt5
           have S3 := Lib.hid (HI1.out.next HX.out HU.out HO4.out HG4.out hown5 hgrow5)
           clear hown5 hgrow5 hat5 hlt5)
        | (at_builtin; refine wpList_append_lies _ rfl _ _ 55 rfl w.heap.size 3 i4 _ 1 8 Tryz.underlying55 hi4 hz40 hz41 hz42 rfl (by decide) _ _ _ rfl (HI1.out.ints.alloc _) ⟨w1.heap.size, 0, none⟩ 1 1 [.int .i64 (q : Int)] rfl rfl (World.news_of_block (cs := #[.int .i64 (q : Int)]) (t := 3) (fr := (0, 0)) (heap_alloc_new _ _)) (by simp [Value.oneCell']) (by decide) (by unfold maxLen; omega) (by omega) (by simp; omega) _ rfl ?_; intro gg4 cp4 w2 hown4 hgrow4 hat4 hlt4
           have HO4 := Lib.hid hown4
           have HG4 := Lib.hid hgrow4
           have HR5 := Lib.hid (row_other HI1.out.ints HI1.out.rows tys_ne2 hgrow4)
           have hz2 : w.heap.size ≤ w2.heap.size := (by have h1 := hgrow4.size; simp at h1; omega)
           clear hown4 hgrow4 hat4 hlt4)
        | (go_at_call 40; refine HF.out.mono ?_; rintro e w1 ⟨A1, c1, rfl, ha1, hk1, b1⟩
           have HI1 := Lib.hid (hI.out.kept b1)
           have HU := Lib.hid (ha1.back hk1 HI1.out.bel)
           have hz1 : w.heap.size ≤ w1.heap.size := HI1.out.bel.size
           clear ha1 hk1 b1))
      have hq2 : q + N ≤ 1000 := by have := HN.out; omega
      go_roundg (1001 - (q + N))
      case measure => have := HN.out; omega
      case rel => exact ⟨q + N, _, _, rfl, by have := HN.out; omega, by go_num, S3⟩
    · have HE : Hid (allF L = pre) := hI.out.at'.done (by rw [HR.out.e]; exact hE)
      go_wp2_with (go_at_call 40; refine HF.out.mono ?_; rintro e w1 ⟨A1, c1, rfl, ha1, hk1, b1⟩
                   have HI1 := Lib.hid (hI.out.kept b1)
                   clear ha1 hk1 b1)
      go_ret2
      refine ⟨u4, u5, us, q, rfl, ?_⟩
      rw [HE.out]
      exact HI1.out
end Go.Proofs.YtklngdmpledgeaaGreat.Fr
