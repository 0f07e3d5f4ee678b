/-
  Clone, frame's Bend, bend and Bend once more, at as many bytes as may come in. Conditions: at most 140737488351232 bytes.
-/
import Derived.Test.YtnekjbdogdghnaaNOp4
namespace Go.Proofs.Ytnekjbdogdghnaa.Ne
open Go.RowKit Go.Conc Bx
open Fr (BAt bok bv bv_len bv_get bv_one u8Inf bok_at bits_xor8 own_set bend_out bend xb Bnd bv_getD)

set_option maxRecDepth 100000 in
theorem clone_big (w : World) (v : Value) (l : List Int) (h : BAt w v l) (hl : l.length ≤ 140737488351232) :
    Calls Try.prog 45 #[v] w fun e w' => ∃ v', e = .returned v' ∧ w'.ownsRow w.heap.size 5 1 v' l.length (bv l) ∧ Below w.heap.size w w' := by
  obtain ⟨A, cap, rfl, _, hc⟩ := h
  obtain ⟨i0, hi0, hz0, hz1, hz2⟩ := info_parts u8Inf
  have q22 : ∀ (w : World) (a : Option Addr) (n c n' c' : Nat), (binOp .eql 37 (.slice a n c) (.slice none n' c')).run Try.prog w = .ok (.bool a.isNone) w := fun w a n c n' c' => Lib.run_eql_slice_nil w _ _ a n c n' c' Try.underlying37
  obtain ⟨n, hn⟩ : ∃ n, n = l.length := ⟨_, rfl⟩
  have HN := Lib.hid hn
  rw [← hn] at hc hl ⊢
  cases A with
  | none =>
    have h0 : l = [] := by
      cases l with
      | nil => rfl
      | cons x r => obtain ⟨g, o, h1, _⟩ := hc (by rw [hn]; simp); cases h1
    subst h0
    have HO : Hid (w.ownsRow w.heap.size 5 1 (.slice none 0 0) n (bv [])) := by
      show World.ownsRow _ _ _ _ _ _ _
      rw [hn]; exact World.ownsRow_nil _ _ _ _
    clear hn hc
    go_enter Try.func45, Try.ntmps45
    go_wp2
    go_ret
    exact ⟨_, rfl, HO.out, Below.refl _ _⟩
  | some a =>
    have HC : Hid (∀ j u, (bv l)[j]? = some u → (w.alloc (.cells #[] 5)).cell? (a.add j) = some u) := by
      intro j u hu
      have hj : j < n := by have := (List.getElem?_eq_some_iff.1 hu).1; rw [bv_len] at this; omega
      obtain ⟨g, o, h1, h2, h3⟩ := hc (by omega)
      cases h1
      rw [show (Addr.mk g o none).add j = ⟨g, o + j, none⟩ by unfold Addr.add; split <;> simp_all, bv_get hu]
      exact Lib.cell?_alloc_some _ (h3 j hj)
    clear hn hc
    go_enter Try.func45, Try.ntmps45
    go_wp2_with (at_builtin; refine wpList_append_own _ rfl _ _ 37 rfl w.heap.size 5 i0 (.int .u8 0) 1 1 Try.underlying37 hi0 hz0 hz1 hz2 rfl (by decide) _ _ _ rfl (World.ownsRow_made w #[] 0 (Nat.le_refl _) (Nat.zero_le _) rfl) a n cap (bv l) rfl (by rw [bv_len, HN.out]; omega) HC.out (bv_one _) (by unfold maxLen; omega) (by omega) (by simp) ?_; intro v' w1 hown hgrow hnil)
    go_ret
    exact ⟨v', rfl, by simpa using hown, ((Below.refl _ w).alloc (Nat.le_refl _) _).grown hgrow (by simp) (by intro k hk; have hk2 : w.heap.size = k := Option.some.inj hk; omega)⟩
set_option maxRecDepth 100000 in
set_option maxHeartbeats 4000000 in
theorem fbend_big (w : World) (v : Value) (l : List Int) (a b : Int) (h : BAt w v l) (hk : bok l) (hn : l.length ≤ 140737488351232) (hb : 0 ≤ b ∧ b < 256) :
    Calls Try.prog 44 #[v, .int .i64 a, .int .u8 b] w fun e w' => Bnd w l a b e w' ∧ Below w.heap.size w w' := by
  have HC := Lib.hid (clone_big w v l h hn)
  obtain ⟨n, hnn⟩ : ∃ n, n = l.length := ⟨_, rfl⟩
  have HN := Lib.hid hnn
  by_cases hin : 0 ≤ a ∧ a < l.length
  · obtain ⟨i, hi⟩ : ∃ i : Nat, a = (i : Int) := ⟨a.toNat, by omega⟩
    subst hi
    have hil : i < n := by omega
    obtain ⟨x, hx⟩ : ∃ x, x = l.getD i 0 := ⟨_, rfl⟩
    obtain ⟨y, hy⟩ : ∃ y, y = xb x b := ⟨_, rfl⟩
    have hxb := bok_at hk (i := i) (by omega)
    rw [← hx] at hxb
    have hxx := bits_xor8 x b hxb hb
    rw [← hy] at hxx
    have HD : Hid (bend l (i : Int) b = l.set i y) := by
      show _ = _
      rw [hy, hx]; unfold bend; rw [if_pos hin]; simp
    have HX := Lib.hid hx
    have t1 : (0 : Int) ≤ (i : Int) := by omega
    have t2 : (i : Int) < (n : Int) := by omega
    clear h hk hnn hin hx hy hxb hb
    go_enter Try.func44, Try.ntmps44
    go_wp2_with (go_at_call 45; refine HC.out.mono ?_; rintro e w1 ⟨u, rfl, ho, hb1⟩
                 obtain ⟨g, c1, hu⟩ : ∃ g c, u = Value.slice (some ⟨g, 0, none⟩) n c := (by
                   rcases ho.2 with ⟨_, h2⟩ | ⟨g, c, cur, h2, _⟩
                   · have := HN.out; omega
                   · exact ⟨g, c, by rw [h2, HN.out]⟩)
                 subst hu
                 have hcc : w1.cell? ⟨g, i, none⟩ = some (.int .u8 x) := (by
                   have h3 := ho.cells (g := g) rfl i _ (bv_getD (l := l) (j := i) (by have := HN.out; omega))
                   rw [show (Addr.mk g 0 none).add i = ⟨g, 0 + i, none⟩ by unfold Addr.add; split <;> simp_all, Nat.zero_add, ← HX.out] at h3
                   exact h3)
                 have hff : w1.frozen? ⟨g, i, none⟩ = false := (by
                   rcases ho.2 with ⟨h2, _⟩ | ⟨g2, c, cur, h2, _, hg, _⟩
                   · cases h2
                   · cases h2; simp [World.frozen?, hg])
                 have HO := Lib.hid ho
                 have HB1 := Lib.hid hb1
                 have HG := Lib.hid (ho.lt g rfl)
                 clear ho hb1)
    go_ret
    refine ⟨⟨some ⟨g, 0, none⟩, c1, by rw [← HN.out]; rfl, ?_⟩, HB1.out.setCell (p := ⟨g, i, none⟩) HG.out.1 _⟩
    have h4 := own_set HO.out i (by have := HN.out; omega) y
    rw [HD.out, List.length_set, ← HN.out]
    rw [← HN.out] at h4
    exact h4
  · have HD : Hid (bend l a b = l) := bend_out hin
    have t1 : 0 ≤ a → ¬ a < (n : Int) := fun h0 h1 => hin ⟨h0, by omega⟩
    clear h hk hnn hb
    by_cases h0 : 0 ≤ a
    · have t2 := t1 h0
      clear t1 hin
      go_enter Try.func44, Try.ntmps44
      go_wp2_with (go_at_call 45; refine HC.out.mono ?_; rintro e w1 ⟨u, rfl, ho, hb1⟩
                   obtain ⟨A1, c1, hu⟩ : ∃ A c, u = Value.slice A n c := (by obtain ⟨A, c, h2, _⟩ := BAt.of_own ho; exact ⟨A, c, by rw [h2, HN.out]⟩)
                   subst hu
                   have HO := Lib.hid ho
                   have HB1 := Lib.hid hb1
                   clear ho hb1)
      go_ret
      refine ⟨⟨A1, c1, ?_, ?_⟩, HB1.out⟩
      · rw [← HN.out]; rfl
      · rw [HD.out, ← HN.out]; have := HO.out; rw [← HN.out] at this; exact this
    · clear t1 hin
      go_enter Try.func44, Try.ntmps44
      go_wp2_with (go_at_call 45; refine HC.out.mono ?_; rintro e w1 ⟨u, rfl, ho, hb1⟩
                   obtain ⟨A1, c1, hu⟩ : ∃ A c, u = Value.slice A n c := (by obtain ⟨A, c, h2, _⟩ := BAt.of_own ho; exact ⟨A, c, by rw [h2, HN.out]⟩)
                   subst hu
                   have HO := Lib.hid ho
                   have HB1 := Lib.hid hb1
                   clear ho hb1)
      go_ret
      refine ⟨⟨A1, c1, ?_, ?_⟩, HB1.out⟩
      · rw [← HN.out]; rfl
      · rw [HD.out, ← HN.out]; have := HO.out; rw [← HN.out] at this; exact this
set_option maxRecDepth 100000 in
theorem pbend_big (w : World) (x : V) (a b : Int) (h : pbE x a b = 0) (hn : x.1.size ≤ 140737488351232) (hby : 0 ≤ b ∧ b < 256) : Calls Try.prog 37 #[.agg #[.string x.1, .bool x.2], .int .i64 a, .int .u8 b] w fun e w' => e = .returned (.tuple #[.agg #[.string (pbV x a b).1, .bool (pbV x a b).2], .int .i64 0]) ∧ Below w.heap.size w w' := by
  have ev : pbV x a b = (strOf (Fr.bend (sb x.1) a b), true) := by unfold pbV; rw [if_pos h]
  rw [ev]
  clear ev
  obtain ⟨s, q⟩ := x
  unfold pbE at h
  simp only at h hn ⊢
  by_cases t4 : b = 0 ∨ a < 0 ∨ (s.size : Int) ≤ a
  · rw [if_pos t4] at h; cases h
  · rw [if_neg t4] at h
    by_cases t5 : q = true
    · rw [if_pos t5] at h; cases h
    · have t1 : ¬ b = 0 := by omega
      have t2 : ¬ a < 0 := by omega
      have t3 : ¬ (s.size : Int) ≤ a := by omega
      have t6 : q = false := by simpa using t5
      subst t6
      clear h t4 t5
      have hb : Below w.heap.size w ((w.alloc (.cells #[.string s, .bool false] 65)).alloc (.cells #[.string ⟨#[]⟩, .bool false] 65)) := ((Below.refl _ _).alloc (Nat.le_refl _) _).alloc (by simp) _
      have z := block_new (w.alloc (.cells #[.string s, .bool false] 65)) (.cells #[.string ⟨#[]⟩, .bool false] 65)
      obtain ⟨cv, cw, hcw⟩ := str_new s
      have hcv : ∀ W, (convert 9 37 (.string s)).run Try.prog W = .ok (.slice (some ⟨W.heap.size, 0, none⟩) s.size (cv W)) (cw W) := fun W => (hcw W).1
      obtain ⟨W1, hW1⟩ : ∃ W1, W1 = cw ((w.alloc (.cells #[.string s, .bool false] 65)).alloc (.cells #[.string ⟨#[]⟩, .bool false] 65)) := ⟨_, rfl⟩
      obtain ⟨v1, hv1⟩ : ∃ v1, v1 = cv ((w.alloc (.cells #[.string s, .bool false] 65)).alloc (.cells #[.string ⟨#[]⟩, .bool false] 65)) := ⟨_, rfl⟩
      have hcv1 := hcv ((w.alloc (.cells #[.string s, .bool false] 65)).alloc (.cells #[.string ⟨#[]⟩, .bool false] 65))
      obtain ⟨-, h2, -, h4, -⟩ := hcw ((w.alloc (.cells #[.string s, .bool false] 65)).alloc (.cells #[.string ⟨#[]⟩, .bool false] 65))
      rw [← hW1, ← hv1] at hcv1 h2
      rw [← hW1] at h4
      have HE := Lib.hid (fbend_big W1 _ (sb s) a b h2 (sb_bok s) (by rw [sb_len]; exact hn) hby)
      have hl : (sb s).length = s.size := sb_len s
      have hbk : bok (Fr.bend (sb s) a b) := Fr.bend_bok (sb_bok s) a hby
      have HBK := Lib.hid hbk
      have HL := Lib.hid hl
      have HB : Hid (Below w.heap.size w W1) := hb.trans (h4.mono hb.size)
      have hz1 := block_kept z h4
      have HZ := Lib.hid hz1
      have h5 : w.heap.size + 1 < W1.heap.size := by have := (Array.getElem?_eq_some_iff.1 hz1).1; simpa using this
      clear hcv hcw hW1 hv1 h2 h4 hl hbk z hb hz1 hn
      simp only [World.size_alloc] at hcv1 HE HZ
      go_enter Try.func37, Try.ntmps37
      go_wp2_with (first
        | (go_at_call 44; (with_reducible refine HE.out.mono ?_); rintro e w2 ⟨⟨A, c, rfl, ho⟩, k2⟩
           have hcb := conv_any (BAt.of_own (w := w2) (base := W1.heap.size) (l := Fr.bend (sb s) a b) ho) HBK.out
           obtain ⟨⟨z0, z1⟩, f0, f1⟩ := block_cell2 (block_kept HZ.out k2)
           have K2 := Lib.hid k2
           clear ho k2))
      refine bodyPost_ret (v := .tuple #[.agg #[.string (strOf (Fr.bend (sb s) a b)), .bool true], .int .i64 0]) (by simp [results, Try.results37, go_sem, z0, z1]) rfl ⟨rfl, ?_⟩
      exact ((HB.out.trans (K2.out.mono HB.out.size)).setCell (by show _ ≤ w.heap.size + 1; omega) _).setCell (by show _ ≤ w.heap.size + 1; omega) _
section
variable {n0 p R g cp : Nat} {w w' : World} {ls : List (List V)} {lost : Int} {arr : Array Value} {bs : List (Nat × Nat)}
set_option maxRecDepth 100000 in
theorem nbend_big (h : NetB n0 w p R ls lost g cp arr bs) (d a b : Int) (hby : 0 ≤ b ∧ b < 256) (hsz : ∀ l ∈ ls, ∀ x ∈ l, x.1.size ≤ 140737488351232) : Calls Try.prog 22 #[.pointer (some ⟨p, 0, none⟩), .int .i64 d, .int .i64 a, .int .u8 b] w fun e w' => e = .returned (.int .i64 (bendE ls d a b)) ∧ NetB n0 w' p R (bendL ls d a b) lost g cp arr bs ∧ Ch n0 w w' := by
  by_cases hm : mayF ls d = 0
  · obtain ⟨i, x, r, rfl, hw, hl⟩ := mayF_zero hm
    have e1 : bendL ls (i : Int) a b = if pbE x a b = 0 then ls.set i (r ++ [pbV x a b]) else ls := by unfold bendL; rw [hw]; simp
    have e2 : bendE ls (i : Int) a b = pbE x a b := by unfold bendE; rw [hw]
    rw [e1, e2]
    clear hm hw e1 e2
    obtain ⟨b0, hb, hx, hR⟩ := h.at_ hl
    have hi : i < ls.length := (List.getElem?_eq_some_iff.1 hl).1
    have hlt : ¬ R ≤ r.length := by simp at hR; omega
    have lb : b0.2 < w.heap.size := hx.lt.2.2
    have hs := hsz _ (List.mem_of_getElem? hl) x (List.mem_cons_self ..)
    have H := Lib.hid (busy_ok h hb hl)
    have HF : Hid (∀ W, Below w.heap.size w W → Calls Try.prog 36 #[.agg #[.pointer (some ⟨b0.1, 0, none⟩)]] W fun e w' => e = .returned (.agg #[.string x.1, .bool x.2]) ∧ (NetB n0 w' p R ls lost g cp arr bs ∧ Ch n0 W w') ∧ W.grownBy w' (some b0.2)) := fun W hW => first_any (h.below hW) hb hl
    by_cases hp : pbE x a b = 0
    · rw [if_pos hp, hp]
      have HE := Lib.hid (fun W => pbend_big W x a b hp hs hby)
      obtain ⟨y, hy⟩ : ∃ y, y = pbV x a b := ⟨_, rfl⟩
      rw [← hy] at HE ⊢
      have HT : Hid (∀ W, NetB n0 W p R ls lost g cp arr bs → Calls Try.prog 33 #[.pointer (some ⟨b0.1, 0, none⟩)] W fun e w' => e = .returned (.tuple #[.agg #[.string x.1, .bool x.2], .int .i64 0]) ∧ (NetB n0 w' p R (ls.set i r) lost g cp arr bs ∧ Ch n0 W w') ∧ W.grownBy w' (some b0.2)) := fun W hW => take_net hW hb hl
      have HP : Hid (∀ W, NetB n0 W p R (ls.set i r) lost g cp arr bs → Calls Try.prog 35 #[.pointer (some ⟨b0.1, 0, none⟩), .agg #[.string y.1, .bool y.2]] W fun e w' => e = .returned (.int .i64 0) ∧ NetB n0 w' p R (ls.set i (r ++ [y])) lost g cp arr bs ∧ Ch n0 W w') := fun W hW => by
        have := put_net hW y hb (List.getElem?_set_self hi)
        rw [if_neg hlt, if_neg hlt, List.set_set] at this
        exact this.mono fun e w' ⟨a, b, _⟩ => ⟨a, b⟩
      obtain ⟨b1, b2⟩ := b0
      obtain ⟨x1, x2⟩ := x
      obtain ⟨y1, y2⟩ := y
      clear h hb hl hx hR hi hlt hs hsz hp hy hby
      go_enter Try.func22, Try.ntmps22
      go_wp2_with (first
        | (go_at_call 32; refine H.out.mono ?_; rintro e w1 ⟨rfl, k1⟩
           have K1 := Lib.hid (k1.alloc k1.size (.cells #[.pointer (some ⟨b1, 0, none⟩)] 67))
           have z1 := block_new w1 (.cells #[.pointer (some ⟨b1, 0, none⟩)] 67)
           have Z1 := Lib.hid z1
           have c1 := (block_cell Z1.out).1
           have hl1 := k1.size
           have LB : Hid (w1.heap.size ≠ b2) := (by show w1.heap.size ≠ b2; omega)
           have LB2 : Hid (b2 < w1.heap.size) := (by show b2 < w1.heap.size; omega)
           clear k1 z1 hl1)
        | (go_at_call 36; refine (HF.out _ K1.out).mono ?_; rintro e w2 ⟨rfl, ⟨n2, c2⟩, g2⟩
           have Z2 := Lib.hid (block_grown Z1.out g2 LB.out)
           have N2 := Lib.hid n2
           have C2 := Lib.hid c2
           clear n2 c2 g2)
        | (go_at_call 37; refine (HE.out _).mono ?_; rintro e w3 ⟨rfl, k3⟩
           have k4 := k3.alloc k3.size (.cells #[.string y1, .bool y2] 65)
           have Z3 := Lib.hid (block_kept Z2.out k4)
           have z3 := (block_cell Z3.out).1
           have N3 := Lib.hid (N2.out.below k4)
           have C3 := Lib.hid (Ch.of_below (n0 := n0) k4)
           have q3 := (block_cell2 (block_new w3 (.cells #[.string y1, .bool y2] 65)))
           have Q3 := Lib.hid (block_new w3 (.cells #[.string y1, .bool y2] 65))
           have LQ : Hid (w3.heap.size ≠ b2) := (by
             show w3.heap.size ≠ b2
             have a1 := LB2.out
             have a2 := (Array.getElem?_eq_some_iff.1 Z2.out).1
             have a3 := k3.size
             omega)
           clear k3 k4 q3)
        | (go_at_call 33; refine (HT.out _ N3.out).mono ?_; rintro e w4 ⟨rfl, ⟨n4, c4⟩, g4⟩
           have z4 := (block_cell (block_grown Z3.out g4 LB.out)).1
           obtain ⟨⟨y4, y5⟩, _, _⟩ := block_cell2 (block_grown Q3.out g4 LQ.out)
           have N4 := Lib.hid n4
           have C4 := Lib.hid c4
           clear n4 c4 g4)
        | (go_at_call 35; refine (HP.out _ N4.out).mono ?_; rintro e w5 ⟨rfl, n5, c5⟩; have N5 := Lib.hid n5; have C5 := Lib.hid c5; clear n5 c5))
      go_ret
      exact ⟨rfl, N5.out, ((((Ch.of_below K1.out).trans C2.out).trans C3.out).trans C4.out).trans C5.out⟩
    · rw [if_neg hp]
      have HE := Lib.hid (fun W => pbend_bad W x a b hp)
      obtain ⟨m, hm⟩ : ∃ m, m = pbE x a b := ⟨_, rfl⟩
      rw [← hm] at HE hp ⊢
      obtain ⟨b1, b2⟩ := b0
      obtain ⟨x1, x2⟩ := x
      clear h hb hl hx hR hi hlt hs hsz hby hm
      go_enter Try.func22, Try.ntmps22
      go_wp2_with (first
        | (go_at_call 32; refine H.out.mono ?_; rintro e w1 ⟨rfl, k1⟩
           have K1 := Lib.hid (k1.alloc k1.size (.cells #[.pointer (some ⟨b1, 0, none⟩)] 67))
           have c1 := (block_cell (block_new w1 (.cells #[.pointer (some ⟨b1, 0, none⟩)] 67))).1
           clear k1)
        | (go_at_call 36; refine (HF.out _ K1.out).mono ?_; rintro e w2 ⟨rfl, ⟨n2, c2⟩, _⟩
           have N2 := Lib.hid n2
           have C2 := Lib.hid c2
           clear n2 c2)
        | (go_at_call 37; refine (HE.out _).mono ?_; rintro e w3 ⟨rfl, k3⟩
           have K3 := Lib.hid k3
           clear k3))
      go_ret
      have k4 := K3.out.alloc K3.out.size (.cells #[.string ⟨#[]⟩, .bool false] 65)
      exact ⟨rfl, N2.out.below k4, ((Ch.of_below K1.out).trans C2.out).trans (.of_below k4)⟩
  · have hq := (bad_eq hm).2.2 a b
    rw [hq.1, hq.2]
    have H := Lib.hid (busy_bad h hm)
    obtain ⟨m, hmm⟩ : ∃ m, m = mayF ls d := ⟨_, rfl⟩
    rw [← hmm] at H hm ⊢
    have HN := Lib.hid h
    clear h hmm hq hsz
    go_enter Try.func22, Try.ntmps22
    go_wp2_with (go_at_call 32; refine H.out.mono ?_; rintro e w1 ⟨rfl, k1⟩)
    go_ret
    have k2 := k1.alloc k1.size (.cells #[.pointer none] 67)
    exact ⟨rfl, HN.out.below k2, .of_below k2⟩
end
end Go.Proofs.Ytnekjbdogdghnaa.Ne
