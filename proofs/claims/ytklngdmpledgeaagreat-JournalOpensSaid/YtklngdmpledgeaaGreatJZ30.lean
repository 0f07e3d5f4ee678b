/-
  The law's next and is; Append at the greatest number; the reference's Frame. Conditions: at most six hundred records.
-/
import Derived.Test.YtklngdmpledgeaaGreatJZ23
import Derived.Test.YtklngdmpledgeaaGreatJZ29
import Derived.Test.YtklngdmpledgeaaGreatJZ26
import Derived.Test.YtklngdmpledgeaaGreatJZ27
import Derived.Test.YtklngdmpledgeaaGreatJZ19
namespace Go.Proofs.YtklngdmpledgeaaGreat.Jo
open Go.RowKit Fr Sr
attribute [local go_sem] Oper.semAt_some

theorem wrap_sub1' {n i : Nat} (h : n = i + 1) (hn : n ≤ 1000) : IntKind.i64.wrap ((n : Int) - 1) = (i : Int) := by rw [IntKind.wrap_i64]; omega
theorem wrap_add1' {x z : Nat} (h : z = x + 1) (hx : x ≤ 4611686018427387903) : IntKind.i64.wrap ((x : Int) + 1) = (z : Int) := by rw [IntKind.wrap_i64]; omega
/-- The next number behind records. -/
def nxtR (rs : List Re) : Nat := match rs.getLast? with | none => 0 | some r => r.1 + 1
theorem nxtR_recs (cs : List Rc) : nxtR (recs cs) = nxt cs := by
  unfold nxtR nxt recs
  rw [List.getLast?_map]
  cases cs.getLast? <;> rfl
theorem nxtR_some {rs : List Re} {i : Nat} (h : rs.length = i + 1) : ∃ r, rs[i]? = some r ∧ nxtR rs = r.1 + 1 := by
  have h1 : rs.getLast? = rs[i]? := by rw [List.getLast?_eq_getElem?, h]; rfl
  have h2 : rs[i]? = some rs[i] := List.getElem?_eq_getElem (by omega)
  refine ⟨_, h2, ?_⟩
  unfold nxtR
  rw [h1, h2]
set_option maxRecDepth 100000 in
theorem lnext_any (w : World) (v : Value) (rs : List Re) (h : RecA w v rs) (hn : rs.length ≤ 1000) (hx : ∀ r ∈ rs, r.1 ≤ 4611686018427387903) :
    Calls Tryz.prog 9 #[v] w fun e w' => e = .returned (.int .i64 (nxtR rs : Int)) ∧ w = w' := by
  obtain ⟨A, cap, rfl, hc⟩ := h
  obtain ⟨n, hn2⟩ : ∃ n, n = rs.length := ⟨_, rfl⟩
  obtain ⟨z, hz⟩ : ∃ z, z = nxtR rs := ⟨_, rfl⟩
  rw [← hz, ← hn2]
  rw [← hn2] at hc hn
  rcases Nat.eq_zero_or_pos n with hn0 | hn0
  · subst hn0
    have hz0 : z = 0 := by
      have : rs = [] := List.length_eq_zero_iff.1 hn2.symm
      rw [hz, this]; rfl
    subst hz0
    clear hc hz hn2 hx
    go_enter Tryz.func9, Tryz.ntmps9
    go_wp2
    go_ret
    exact ⟨rfl, rfl⟩
  · obtain ⟨i, hin⟩ : ∃ i, n = i + 1 := ⟨n - 1, by omega⟩
    obtain ⟨r, hr, hzr⟩ := nxtR_some (i := i) (rs := rs) (hn2.symm.trans hin)
    obtain ⟨g, o, rfl, hg, hcell⟩ := hc (by omega)
    obtain ⟨u, c1, _, _⟩ := hcell i r hr
    have hrb := hx r (List.mem_of_getElem? hr)
    obtain ⟨x, hxx⟩ : ∃ x, x = r.1 := ⟨_, rfl⟩
    rw [← hxx] at c1 hrb hzr
    have hz2 : z = x + 1 := hz.trans hzr
    have t1 : ¬ (n : Int) = 0 := by omega
    have hw1 : IntKind.i64.wrap ((n : Int) - 1) = (i : Int) := wrap_sub1' hin hn
    have hw2 : IntKind.i64.wrap ((x : Int) + 1) = (z : Int) := wrap_add1' hz2 hrb
    have t2 : (i : Int) < (n : Int) := by clear hcell hr hx c1; omega
    have t3 : (0 : Int) ≤ (i : Int) := by omega
    clear hc hcell hr hzr hx hz hn2 hxx hz2 hn hg hin hn0
    go_enter Tryz.func9, Tryz.ntmps9
    go_wp2
    go_ret
    exact ⟨rfl, rfl⟩
section
variable {w : World} {p j t nx : Nat} {s : Sr.S} {mb : Option Nat} {L : List Fi} {snd : Bool} {sv : Value} {xs : List Xr} {rs : List Re}
set_option maxRecDepth 100000 in
set_option maxHeartbeats 4000000 in
theorem is_any (h : JSt w p s mb L j t snd nx sv xs rs) {v : Value} (hv : RecA w v rs) (hn : rs.length ≤ 600) (hb : ∀ r ∈ rs, r.2.length ≤ 2000000) :
    Calls Tryz.prog 8 #[.pointer (some ⟨j, 0, none⟩), v, .int .i64 (nx : Int)] w fun e w' => e = .returned (.bool true) ∧ Below w.heap.size w w' := by
  have hk : Tb.pl xs 0 = 0 := by
    rw [pl_vals h.jr.vals]
    unfold keyR
    cases rs with
    | nil => rfl
    | cons r l => rw [List.takeWhile_cons, if_neg (by simp)]; rfl
  have hrec := records_any h 0 hb
  rw [hk, List.drop_zero] at hrec
  have hv0 := hv
  obtain ⟨A, cap, rfl, hc⟩ := hv
  obtain ⟨n, hn2⟩ : ∃ n, n = rs.length := ⟨_, rfl⟩
  obtain ⟨f, hf⟩ : ∃ f, f = fstR rs nx := ⟨_, rfl⟩
  rw [← hn2] at hv0 hc hn ⊢
  have HH := Lib.hid h
  have HR := Lib.hid hrec
  have HV := Lib.hid hv0
  have HBD := Lib.hid hb
  have HN : Hid (n = rs.length ∧ n ≤ 600) := ⟨hn2, hn⟩
  have HF := Lib.hid hf
  clear h hrec hv0 hb hk
  have hcase : (n = 0 ∧ f = nx) ∨ (0 < n ∧ ∃ g o, A = some ⟨g, o, none⟩ ∧ w.cell? ⟨g, o, none⟩ = some (.int .i64 (f : Int))) := by
    cases rs with
    | nil => exact .inl ⟨hn2, hf⟩
    | cons r l =>
      obtain ⟨g, o, e, _, hcell⟩ := hc (by rw [hn2]; simp)
      obtain ⟨u, c1, _, _⟩ := hcell 0 r rfl
      refine .inr ⟨by rw [hn2]; simp, g, o, e, ?_⟩
      rw [hf]
      show w.cell? ⟨g, o, none⟩ = some (Value.int IntKind.i64 (r.1 : Int))
      simpa using c1
  clear hc hn2 hf hn
  rcases hcase with ⟨rfl, rfl⟩ | ⟨hpos, g, o, rfl, c1⟩
  · go_enter Tryz.func8, Tryz.ntmps8
    go_wp2_with (first
      | (go_at_call 30; (with_reducible refine (jnext_any HH5.out).mono ?_); rintro e w' ⟨rfl, rfl⟩)
      | (go_at_call 29; (with_reducible refine (jfirst_any HH4.out).mono ?_); rintro e w5 ⟨he5, hb5⟩
         rw [← HF.out] at he5
         subst he5
         have HH5 := Lib.hid (HH4.out.below hb5)
         have HB5 := Lib.hid (HB4.out.trans (hb5.mono HB4.out.size))
         clear hb5)
      | (go_at_call 27; (with_reducible refine (rsame_any w3 _ _ _ rs HR3.out HV3.out (by have := HN.out; rw [List.length_map]; omega) (by have := HN.out; omega) (fun b hb => by obtain ⟨r, hr, rfl⟩ := List.mem_map.1 hb; exact HBD.out r hr) HBD.out).mono ?_); rintro e w4 ⟨he4, hb4⟩
         rw [decide_eq_true rfl] at he4
         subst he4
         have HH4 := Lib.hid (HH3.out.below hb4)
         have HB4 := Lib.hid (HB3.out.trans (hb4.mono HB3.out.size))
         clear hb4)
      | (go_at_call 28; (with_reducible refine HR.out.mono ?_); rintro e w3 ⟨vr, rfl, hr3, hb3⟩
         have HR3 := Lib.hid hr3.toA
         have HV3 := Lib.hid (HV.out.below hb3)
         have HH3 := Lib.hid (HH.out.below hb3)
         have HB3 := Lib.hid hb3
         clear hr3 hb3))
    go_ret
    exact ⟨rfl, HB5.out⟩
  · have t1 : (0 : Int) < (n : Int) := by omega
    clear hpos
    go_enter Tryz.func8, Tryz.ntmps8
    go_wp2_with (first
      | (go_at_call 30; (with_reducible refine (jnext_any HH5.out).mono ?_); rintro e w' ⟨rfl, rfl⟩)
      | (go_at_call 29; (with_reducible refine (jfirst_any HH4.out).mono ?_); rintro e w5 ⟨he5, hb5⟩
         rw [← HF.out] at he5
         subst he5
         have HH5 := Lib.hid (HH4.out.below hb5)
         have HB5 := Lib.hid (HB4.out.trans (hb5.mono HB4.out.size))
         clear hb5)
      | (go_at_call 27; (with_reducible refine (rsame_any w3 _ _ _ rs HR3.out HV3.out (by have := HN.out; rw [List.length_map]; omega) (by have := HN.out; omega) (fun b hb => by obtain ⟨r, hr, rfl⟩ := List.mem_map.1 hb; exact HBD.out r hr) HBD.out).mono ?_); rintro e w4 ⟨he4, hb4⟩
         rw [decide_eq_true rfl] at he4
         subst he4
         have HH4 := Lib.hid (HH3.out.below hb4)
         have HB4 := Lib.hid (HB3.out.trans (hb4.mono HB3.out.size))
         clear hb4)
      | (go_at_call 28; (with_reducible refine HR.out.mono ?_); rintro e w3 ⟨vr, rfl, hr3, hb3⟩
         have HR3 := Lib.hid hr3.toA
         have HV3 := Lib.hid (HV.out.below hb3)
         have HH3 := Lib.hid (HH.out.below hb3)
         have HB3 := Lib.hid hb3
         clear hr3 hb3))
    go_ret
    exact ⟨rfl, HB5.out⟩
set_option maxRecDepth 100000 in
theorem append_long (h : JSt w p s mb L j t true 4611686018427387904 sv xs rs) (v : Value) :
    Calls Tryz.prog 12 #[.pointer (some ⟨j, 0, none⟩), v] w fun e w' => e = .returned (.tuple #[.int .i64 0, .int .i64 2]) ∧ w = w' := by
  obtain ⟨⟨c0, c1, c2, c3⟩, _⟩ := four h.jr.blk
  have HS := Lib.hid (sound_any h)
  have c4 : w.cell? ⟨j, 3, none⟩ = some (.int .i64 4611686018427387904) := c3
  clear h c3
  go_enter Tryz.func12, Tryz.ntmps12
  go_wp2_with (go_at_call 32; (with_reducible refine HS.out.mono ?_); rintro e w' ⟨rfl, rfl⟩)
  go_ret2
  exact ⟨rfl, rfl⟩
end
end Go.Proofs.YtklngdmpledgeaaGreat.Jo

namespace Go.Proofs.YtklngdmpledgeaaGreat.Jo
open Go.RowKit Fr Sr
attribute [local go_sem] Oper.semAt_some

/-- What All has gathered. -/
structure RaB (w0 w : World) (L : List Int) (pre : List Fr) (us : List Value) (v4 v5 : Value) (q : Nat) (wx : World) : Prop where
  at' : AtP L pre q
  len : us.length = pre.length
  ints : wx.ownsRow w.heap.size 3 1 v4 pre.length (ivs pre)
  rows : wx.ownsRow w.heap.size 22 1 v5 pre.length us
  bat : ∀ j u, us[j]? = some u → BAt w0 u (pre.getD j (0, [])).2
  bel : Below w.heap.size w wx
theorem RaB.kept {w0 w wx wx' : World} {L : List Int} {pre : List Fr} {us : List Value} {v4 v5 : Value} {q : Nat} (h : RaB w0 w L pre us v4 v5 q wx) (hb : Below wx.heap.size wx wx') : RaB w0 w L pre us v4 v5 q wx' :=
  ⟨h.at', h.len, own_same h.ints hb, own_same h.rows hb, h.bat, h.bel.trans (hb.mono h.bel.size)⟩
/-- Both rows are one longer. -/
theorem RaB.next {w0 w wx w1 w2 : World} {L : List Int} {pre : List Fr} {us : List Value} {v4 v5 v4' v5' u : Value} {q q' : Nat} {x : Fr} {o1 o2 : Obj} (h : RaB w0 w L pre us v4 v5 q wx) (hat : AtP L (pre ++ [x]) q') (hu : BAt w0 u x.2)
    (h1 : w1.ownsRow w.heap.size 3 1 v4' (pre.length + 1) (ivs pre ++ [.int .i64 (x.1 : Int)])) (g1 : (wx.alloc o1).grownBy w1 v4.ownBlock) (h2 : w2.ownsRow w.heap.size 22 1 v5' (pre.length + 1) (us ++ [u])) (g2 : (w1.alloc o2).grownBy w2 v5.ownBlock) :
    RaB w0 w L (pre ++ [x]) (us ++ [u]) v4' v5' q' w2 := by
  have r1 : w1.ownsRow w.heap.size 22 1 v5 pre.length us := row_other h.ints h.rows tys_ne2 g1
  have b1 : Below w.heap.size w w1 := (h.bel.alloc h.bel.size _).grown g1 (Nat.le_trans h.bel.size (by simp)) (fun j hj => (h.ints.lt j hj).1)
  refine ⟨hat, by rw [List.length_append, List.length_append, h.len]; rfl, ?_, ?_, fun j u' hu' => ?_, (b1.alloc b1.size _).grown g2 (Nat.le_trans b1.size (by simp)) (fun j hj => (r1.lt j hj).1)⟩
  · rw [List.length_append, ivs_snoc]
    exact row_other r1 h1 (fun e => tys_ne2 e.symm) g2
  · rw [List.length_append]
    exact h2
  · rcases Nat.lt_or_ge j us.length with hj | hj
    · rw [List.getElem?_append_left hj] at hu'
      have e : (pre ++ [x]).getD j (0, []) = pre.getD j (0, []) := by
        simp only [List.getD]
        rw [List.getElem?_append_left (by rw [← h.len]; exact hj)]
      rw [e]
      exact h.bat j u' hu'
    · rw [List.getElem?_append_right hj] at hu'
      have h0 : j - us.length = 0 := by
        rcases Nat.eq_zero_or_pos (j - us.length) with h0 | h0
        · exact h0
        · rw [List.getElem?_eq_none (by simp; omega)] at hu'; cases hu'
      rw [h0] at hu'
      have hj2 : j = pre.length := by have := h.len; omega
      subst hj2
      have hu2 : u = u' := by simpa using hu'
      have e : (pre ++ [x]).getD pre.length (0, []) = x := by simp [List.getD]
      rw [e, ← hu2]
      exact hu

set_option maxRecDepth 100000 in
set_option maxHeartbeats 8000000 in
theorem rall0 (w0 w : World) (h0 : Below w0.heap.size w0 w) (A : Option Addr) (m cap : Nat) (L : List Int) (hL : BAt w0 (.slice A m cap) L) (hb : bok L) (hm : m ≤ 1000) :
    Calls Tryz.prog 20 #[.slice A m cap] w fun e w' => ∃ v1 v2 us q, e = .returned (.tuple #[v1, v2]) ∧ RaB w0 w L (allF L) us v1 v2 q w' := by
  obtain ⟨i4, hi4, hz40, hz41, hz42⟩ := info_parts intInf
  obtain ⟨i5, hi5, hz50, hz51, hz52⟩ := info_parts byInf
  have hlm := hL.len.1
  have hcap := hL.len.2
  have hBK : BK (fun k => k < w0.heap.size) (.slice A m cap) L := fun hp a n c ha => by
    obtain ⟨A', c', h1, h2, h3⟩ := hL
    obtain ⟨g, o, h4, h5, _⟩ := h3 hp
    cases ha; cases h1; cases h4
    exact h5
  have HL := Lib.hid hL
  have H0 := Lib.hid h0
  have HD : Hid (bok L ∧ L.length = m ∧ BK (fun k => k < w0.heap.size) (.slice A m cap) L) := ⟨hb, hlm, hBK⟩
  clear hL hb hlm hBK h0
  go_enter Tryz.func20, Tryz.ntmps20
  go_wp2
  go_loopg [4, 5, 6] 1001 (fun (gh : Nat) s4 s5 s6 wx => ∃ (q : Nat) (pre : List Fr) (us : List Value), gh = 1001 - q ∧ q ≤ m ∧ s6 = .int .i64 (q : Int) ∧ Hid (RaB w0 w L pre us s4 s5 q wx))
  case atStart => exact ⟨0, [], [], rfl, Nat.zero_le _, rfl, AtP.start L, rfl, World.ownsRow_nil _ _ _ _, World.ownsRow_nil _ _ _ _, fun j u hu => by simp at hu, Below.refl _ _⟩
  case round =>
    obtain ⟨q, pre, us, rfl, hq, rfl, hI⟩ := hrel
    obtain ⟨A', hA', hs⟩ := slice_from A m cap q hq hcap
    have hBr : BAt wr (.slice A' (m - q) (cap - q)) (L.drop q) := (HL.out.kept (H0.out.trans (hI.out.bel.mono H0.out.size))).from q hA' hq
    have hBKr : BK (fun k => k < w0.heap.size) (.slice A' (m - q) (cap - q)) (L.drop q) := fun hp a n c ha => by
      have h1 : q < m := by rw [List.length_drop] at hp; have := HD.out.2.1; omega
      obtain ⟨A2, c', h2, h3, h4⟩ := HL.out
      obtain ⟨g, o, h5, h6, _⟩ := h4 (by have := HD.out.2.1; omega)
      cases h2
      rw [hA' h1 g o h5] at ha
      cases ha
      exact h6
    obtain ⟨B, k, N, E, hR⟩ := nx_some (L.drop q)
    have HF := Lib.hid (rnext_kt _ wr _ (L.drop q) B k N E hBr (bok_drop HD.out.1 q) (by rw [List.length_drop]; have := HD.out.2.1; omega) hBKr hR)
    have HR := Lib.hid hR
    obtain ⟨r1, hr1⟩ : ∃ r1, r1 = m - q := ⟨_, rfl⟩
    obtain ⟨r2, hr2⟩ : ∃ r2, r2 = cap - q := ⟨_, rfl⟩
    rw [← hr1, ← hr2] at hs HF
    have hm9 : q ≤ 1000 := by omega
    clear hBr hR hA' hr1 hr2 hBKr
    by_cases hE : E = 0
    · have hN : N ≤ 1000 ∧ 8 ≤ N ∧ q + N ≤ m := by
        have h1 : nxE (L.drop q) = 0 := by rw [HR.out.e]; exact hE
        have h2 := nxN_ok h1
        rw [List.length_drop, HR.out.n, HD.out.2.1] at h2
        omega
      have HX : Hid (AtP L (pre ++ [(q, B)]) (q + N)) := by
        have h1 : nxE (L.drop q) = 0 := by rw [HR.out.e]; exact hE
        have h2 := hI.out.at'.step h1
        rw [HR.out.b, HR.out.n] at h2
        exact h2.1
      have hpl : pre.length ≤ 1000 := by
        have h1 := hI.out.at'
        obtain ⟨kk, h2, _⟩ := h1
        have h3 := allF_len L
        rw [h2, List.length_append, HD.out.2.1] at h3
        omega
      subst hE
      have hn1 : N ≤ 1000 := hN.1
      have HN := Lib.hid hN
      have hz0 := hI.out.bel.size
      clear hN
      go_wp2_with (first
        | (at_builtin; refine wpList_append_lies _ rfl _ _ 56 rfl w.heap.size 22 i5 _ 1 24 Tryz.underlying56 hi5 hz50 hz51 hz52 rfl (by decide) _ _ _ rfl (HR5.out.alloc _) ⟨w2.heap.size, 0, none⟩ 1 1 [.slice A1 k c1] rfl rfl (World.news_of_block (cs := #[.slice A1 k c1]) (t := 22) (fr := (0, 0)) (heap_alloc_new _ _)) (by simp [Value.oneCell']) (by decide) (by unfold maxLen; omega) (by omega) (by simp; omega) _ rfl ?_; intro gg5 cp5 w3 hown5 hgrow5 hat5 hlt5
           have S3 := Lib.hid (HI1.out.next HX.out HU.out HO4.out HG4.out hown5 hgrow5)
           clear hown5 hgrow5 hat5 hlt5)
        | (at_builtin; refine wpList_append_lies _ rfl _ _ 55 rfl w.heap.size 3 i4 _ 1 8 Tryz.underlying55 hi4 hz40 hz41 hz42 rfl (by decide) _ _ _ rfl (HI1.out.ints.alloc _) ⟨w1.heap.size, 0, none⟩ 1 1 [.int .i64 (q : Int)] rfl rfl (World.news_of_block (cs := #[.int .i64 (q : Int)]) (t := 3) (fr := (0, 0)) (heap_alloc_new _ _)) (by simp [Value.oneCell']) (by decide) (by unfold maxLen; omega) (by omega) (by simp; omega) _ rfl ?_; intro gg4 cp4 w2 hown4 hgrow4 hat4 hlt4
           have HO4 := Lib.hid hown4
           have HG4 := Lib.hid hgrow4
           have HR5 := Lib.hid (row_other HI1.out.ints HI1.out.rows tys_ne2 hgrow4)
           have hz2 : w.heap.size ≤ w2.heap.size := (by have h1 := hgrow4.size; simp at h1; omega)
           clear hown4 hgrow4 hat4 hlt4)
        | (go_at_call 40; refine HF.out.mono ?_; rintro e w1 ⟨A1, c1, rfl, ha1, hk1, b1⟩
           have HI1 := Lib.hid (hI.out.kept b1)
           have HU := Lib.hid (ha1.back hk1 (H0.out.trans (HI1.out.bel.mono H0.out.size)))
           have hz1 : w.heap.size ≤ w1.heap.size := HI1.out.bel.size
           clear ha1 hk1 b1))
      have hq2 : q + N ≤ 1000 := by have := HN.out; omega
      go_roundg (1001 - (q + N))
      case measure => have := HN.out; omega
      case rel => exact ⟨q + N, _, _, rfl, by have := HN.out; omega, by go_num, S3⟩
    · have HE : Hid (allF L = pre) := hI.out.at'.done (by rw [HR.out.e]; exact hE)
      go_wp2_with (go_at_call 40; refine HF.out.mono ?_; rintro e w1 ⟨A1, c1, rfl, ha1, hk1, b1⟩
                   have HI1 := Lib.hid (hI.out.kept b1)
                   clear ha1 hk1 b1)
      go_ret2
      refine ⟨u4, u5, us, q, rfl, ?_⟩
      rw [HE.out]
      exact HI1.out
end Go.Proofs.YtklngdmpledgeaaGreat.Jo
