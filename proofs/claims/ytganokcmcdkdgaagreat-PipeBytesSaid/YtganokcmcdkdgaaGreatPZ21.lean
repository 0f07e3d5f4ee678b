/-
  Rows of packets; the contract of Tick. Conditions: at most five thousand things said.
-/
import Derived.Test.YtganokcmcdkdgaaGreatPZ20
namespace Go.Proofs.YtganokcmcdkdgaaGreat.Pi
open Go.RowKit Wi Tb Wi.S

/-- The cells of packets of Data, from the number f on. -/
def pcs (s p : Int) : Nat → List Value → List Value
  | _, [] => []
  | f, v :: r => [.int .i64 1, .int .i64 s, .int .i64 p, .int .i64 (f : Int), v] ++ pcs s p (f + 1) r
theorem pcs_len (s p : Int) : ∀ (f : Nat) (vs : List Value), (pcs s p f vs).length = vs.length * 5
  | _, [] => rfl
  | f, v :: r => by rw [pcs, List.length_append, pcs_len s p (f + 1) r, List.length_cons]; simp; omega
theorem pcs_app (s p : Int) : ∀ (f : Nat) (vs : List Value) (u : Value), pcs s p f (vs ++ [u]) = pcs s p f vs ++ [.int .i64 1, .int .i64 s, .int .i64 p, .int .i64 ((f + vs.length : Nat) : Int), u]
  | f, [], u => by simp [pcs]
  | f, v :: r, u => by
    rw [List.cons_append, pcs, pcs_app s p (f + 1) r u, pcs, List.append_assoc, List.length_cons]
    rw [show f + 1 + r.length = f + (r.length + 1) by omega]
theorem pcs_get (s p : Int) : ∀ (f : Nat) (vs : List Value) (j : Nat) (u : Value), vs[j]? = some u → (pcs s p f vs)[j * 5]? = some (.int .i64 1) ∧ (pcs s p f vs)[j * 5 + 1]? = some (.int .i64 s) ∧ (pcs s p f vs)[j * 5 + 2]? = some (.int .i64 p) ∧ (pcs s p f vs)[j * 5 + 3]? = some (.int .i64 ((f + j : Nat) : Int)) ∧ (pcs s p f vs)[j * 5 + 4]? = some u
  | f, [], j, u, h => by simp at h
  | f, v :: r, 0, u, h => by simp at h; subst h; exact ⟨rfl, rfl, rfl, by simp [pcs], rfl⟩
  | f, v :: r, j + 1, u, h => by
    have ih := pcs_get s p (f + 1) r j u (by simpa using h)
    rw [pcs]
    have e : ∀ k, ([Value.int .i64 1, .int .i64 s, .int .i64 p, .int .i64 (f : Int), v] ++ pcs s p (f + 1) r)[(j + 1) * 5 + k]? = (pcs s p (f + 1) r)[j * 5 + k]? := fun k => by
      rw [List.getElem?_append_right (by simp; omega)]
      congr 1
      simp; omega
    have e0 := e 0
    simp only [Nat.add_zero] at e0
    rw [e0, e 1, e 2, e 3, e 4]
    rw [show f + 1 + j = f + (j + 1) by omega] at ih
    exact ih
theorem pcs_one (s p : Int) : ∀ (f : Nat) (vs : List Value), (∀ u ∈ vs, u.oneCell' = true) → ∀ u ∈ pcs s p f vs, u.oneCell' = true
  | _, [], _, u, hu => absurd hu List.not_mem_nil
  | f, v :: r, h, u, hu => by
    rw [pcs] at hu
    rcases List.mem_append.1 hu with h1 | h1
    · simp at h1
      rcases h1 with rfl | rfl | rfl | rfl | rfl
      · rfl
      · rfl
      · rfl
      · rfl
      · exact h u (by simp)
    · exact pcs_one s p (f + 1) r (fun x hx => h x (by simp [hx])) u h1
def PkT (e ts : TypeId) : Prop := Tryz.prog.underlying ts = some (.slice e) ∧ (Tryz.prog.info? e).map (fun i => (i.zero, i.size, i.bytes)) = some (some (.agg #[.int .i64 0, .int .i64 0, .int .i64 0, .int .i64 0, .slice none 0 0]), 5, 56)
theorem pkT : PkT 25 73 := ⟨Tryz.underlying73, by kernel_rfl⟩
/-- One more packet behind a row of the call's own. -/
theorem papp {e ts : TypeId} (hT : PkT e ts) (W : World) (B f : Nat) (s p : Int) (v : Value) (vs : List Value) (own : W.ownsRow B e 5 v vs.length (pcs s p f vs)) (hn : vs.length ≤ 1000) (hB : B ≤ W.heap.size) (u : Value) (h1 : u.oneCell' = true) :
    ∃ A c W2, (∀ ty, (Builtin.append_ #[ts, ts] ty #[v, .slice (some ⟨W.heap.size, 0, none⟩) 1 1]).run Tryz.prog (W.alloc (.cells #[.int .i64 1, .int .i64 s, .int .i64 p, .int .i64 ((f + vs.length : Nat) : Int), u] e)) = .ok (.slice A (vs.length + 1) c) W2) ∧ W2.ownsRow B e 5 (.slice A (vs.length + 1) c) (vs ++ [u]).length (pcs s p f (vs ++ [u])) ∧ W.grownBy W2 v.ownBlock := by
  obtain ⟨hu, hi⟩ := hT
  obtain ⟨i0, hi0, hz0, hz1, hz2⟩ := info_parts hi
  have hnew := Tb.block_new W (.cells #[.int .i64 1, .int .i64 s, .int .i64 p, .int .i64 ((f + vs.length : Nat) : Int), u] e)
  obtain ⟨r0, r1, r2, r3, r4⟩ := blk5 hnew
  have hcell : ∀ j x, ([Value.int .i64 1, .int .i64 s, .int .i64 p, .int .i64 ((f + vs.length : Nat) : Int), u] : List Value)[j]? = some x → (W.alloc (.cells #[.int .i64 1, .int .i64 s, .int .i64 p, .int .i64 ((f + vs.length : Nat) : Int), u] e)).cell? ((⟨W.heap.size, 0, none⟩ : Addr).add j) = some x := by
    intro j x hj
    match j, hj with
    | 0, hj => cases hj; exact r0
    | 1, hj => cases hj; exact r1
    | 2, hj => cases hj; exact r2
    | 3, hj => cases hj; exact r3
    | 4, hj => cases hj; exact r4
  have own' : (W.alloc (.cells #[.int .i64 1, .int .i64 s, .int .i64 p, .int .i64 ((f + vs.length : Nat) : Int), u] e)).ownsRow B e 5 v vs.length (pcs s p f vs) := own_below own ((Below.refl _ _).alloc (Nat.le_refl _) _)
  have hrun := fun ty => run_append_own (P := Tryz.prog) (W.alloc (.cells #[.int .i64 1, .int .i64 s, .int .i64 p, .int .i64 ((f + vs.length : Nat) : Int), u] e)) B ts ty e i0 _ 5 _ hu hi0 hz0 hz1 hz2 (by decide) (by decide) v vs.length (pcs s p f vs) own' ⟨W.heap.size, 0, none⟩ 1 1 [.int .i64 1, .int .i64 s, .int .i64 p, .int .i64 ((f + vs.length : Nat) : Int), u] rfl hcell (fun x hx => by
    simp at hx
    rcases hx with rfl | rfl | rfl | rfl | rfl
    · rfl
    · rfl
    · rfl
    · rfl
    · exact h1) (by unfold maxLen; omega) (by omega) (Nat.le_trans hB (by simp))
  obtain ⟨v', W2, hr, ho, hg, _⟩ := hrun ts
  rw [← pcs_app] at ho
  have ho2 : W2.ownsRow B e 5 v' (vs ++ [u]).length (pcs s p f (vs ++ [u])) := by rw [List.length_append, List.length_singleton]; exact ho
  obtain ⟨A, c, h2, _⟩ := own_form ho2
  rw [List.length_append, List.length_singleton] at h2
  subst h2
  exact ⟨A, c, W2, fun ty => hr, ho2, ⟨hg.os, hg.tape, hg.output, Nat.le_trans (by simp) hg.size, fun k hk hne => (hg.block k (by simp; omega) hne).trans (Below.heap_alloc _ _ _ hk)⟩⟩
/-- A row's block is none that nobody changes. -/
theorem row_fix {N0 B n size : Nat} {W : World} {e : TypeId} {v : Value} {cs : List Value} (own : W.ownsRow B e size v n cs) (hN : N0 ≤ B) (h1 : e ≠ 5) (h2 : e ≠ 22) : ∀ g, Fix N0 W g → ¬ (v.ownBlock = some g) := fun g hf ho => by
  rcases own.2 with ⟨k1, _⟩ | ⟨g2, cap, cur, k1, k2, k3, _⟩
  · rw [k1] at ho; cases ho
  · rw [k1] at ho
    cases ho
    rcases hf with hf | ⟨t, cs, fr, h3, h4⟩
    · have hf' : g2 < N0 := hf
      omega
    · rw [k3] at h3
      simp only [Option.some.injEq, Obj.cells.injEq] at h3
      rcases h4 with h4 | h4
      · exact h1 (h3.2.1.trans h4)
      · exact h2 (h3.2.1.trans h4)
section
variable {w0 w w' : World} {b a : Nat} {s p nx : Int} {sv rv : Value} {xs : List ByteArray} {l : List Rw}
/-- Packets as a row of the call's own, with their bytes. -/
structure PkR (N0 B : Nat) (e : TypeId) (s p : Int) (f : Nat) (ts : List ByteArray) (v : Value) (vs : List Value) (W : World) : Prop where
  own : W.ownsRow B e 5 v vs.length (pcs s p f vs)
  le : vs.length ≤ ts.length
  at_ : ∀ (j : Nat) (u : Value), vs[j]? = some u → ∃ t, ts[j]? = some t ∧ BF N0 W u (Fr.sb t)
theorem PkR.form {N0 B f : Nat} {e : TypeId} {ts : List ByteArray} {v : Value} {vs : List Value} {W : World} (h : PkR N0 B e s p f ts v vs W) : ∃ A c, v = .slice A vs.length c := by
  obtain ⟨A, c, h1, _⟩ := own_form h.own
  exact ⟨A, c, h1⟩
theorem PkR.below {N0 B f : Nat} {e : TypeId} {ts : List ByteArray} {v : Value} {vs : List Value} {W W' : World} (h : PkR N0 B e s p f ts v vs W) (hb : Below W.heap.size W W') : PkR N0 B e s p f ts v vs W' :=
  ⟨own_below h.own hb, h.le, fun j u hu => by
    obtain ⟨t, h1, h2⟩ := h.at_ j u hu
    exact ⟨t, h1, h2.below hb⟩⟩
theorem bf_one {N0 : Nat} {W : World} {u : Value} {lb : List Int} (h : BF N0 W u lb) : u.oneCell' = true := by
  obtain ⟨A, c, e, _⟩ := h.1
  rw [e]; rfl
theorem PkR.app {N0 B f : Nat} {e ts' : TypeId} (hT : PkT e ts') (he1 : e ≠ 5) (he2 : e ≠ 22) {ts : List ByteArray} {v : Value} {vs : List Value} {W : World} (h : PkR N0 B e s p f ts v vs W) (hN : N0 ≤ B) (hB : B ≤ W.heap.size) (hn : vs.length ≤ 1000) {u : Value} {t : ByteArray} (ht : ts[vs.length]? = some t) (hu : BF N0 W u (Fr.sb t)) :
    ∃ A c W2, (∀ ty, (Builtin.append_ #[ts', ts'] ty #[v, .slice (some ⟨W.heap.size, 0, none⟩) 1 1]).run Tryz.prog (W.alloc (.cells #[.int .i64 1, .int .i64 s, .int .i64 p, .int .i64 ((f + vs.length : Nat) : Int), u] e)) = .ok (.slice A (vs.length + 1) c) W2) ∧ PkR N0 B e s p f ts (.slice A (vs.length + 1) c) (vs ++ [u]) W2 ∧ Below B W W2 := by
  obtain ⟨A, c, W2, h1, h2, h3⟩ := papp hT W B f s p v vs h.own hn hB u (bf_one hu)
  have hk := Kept.of_grown h3
  have hfx := row_fix h.own hN he1 he2
  refine ⟨A, c, W2, h1, ⟨h2, ?_, fun j x hj => ?_⟩, ⟨h3.os, h3.tape, h3.output, h3.size, fun k hk2 => h3.block k (by omega) (fun e => ?_)⟩⟩
  · rw [List.length_append, List.length_singleton]
    exact (List.getElem?_eq_some_iff.1 ht).1
  · rcases Nat.lt_or_ge j vs.length with hlt | hge
    · rw [List.getElem?_append_left hlt] at hj
      obtain ⟨t', h4, h5⟩ := h.at_ j x hj
      exact ⟨t', h4, h5.kept hk hfx⟩
    · rw [List.getElem?_append_right hge] at hj
      have hj0 : j - vs.length = 0 := by
        have := (List.getElem?_eq_some_iff.1 hj).1
        simp at this; omega
      rw [hj0] at hj
      simp at hj
      have hjv : j = vs.length := by omega
      rw [← hj, hjv]
      exact ⟨t, ht, hu.kept hk hfx⟩
  · have := (h.own.lt k e.symm).1
    omega
theorem PkR.nil (N0 B : Nat) (e : TypeId) (s p : Int) (f : Nat) (ts : List ByteArray) (W : World) : PkR N0 B e s p f ts (.slice none 0 0) [] W := ⟨World.ownsRow_nil _ _ _ _, Nat.zero_le _, fun j u h => by simp at h⟩
end
end Go.Proofs.YtganokcmcdkdgaaGreat.Pi

namespace Go.Proofs.YtganokcmcdkdgaaGreat.Pi
open Go.RowKit Wi Tb Wi.S

section
variable {w0 w w' : World} {b a : Nat} {s p nx : Int} {sv rv : Value} {xs : List ByteArray} {l : List Rw}
theorem at_cell {W : World} {A : Option Addr} {n c i : Nat} {ts : List ByteArray} (h : At W (.slice A n c) ts) (hi : i < n) : ∃ g o t, A = some ⟨g, o, none⟩ ∧ ts[i]? = some t ∧ W.cell? ⟨g, o + i, none⟩ = some (.string t) := by
  obtain ⟨A', cap, e, _, h3⟩ := h
  cases e
  obtain ⟨g, o, h4, _, h6⟩ := h3 (by omega)
  have h5 : ts[i]? = some ts[i] := List.getElem?_eq_getElem hi
  exact ⟨g, o, _, h4, h5, h6 i _ h5⟩
set_option maxRecDepth 100000 in
set_option maxHeartbeats 4000000 in
theorem tick_any (h : PX w0 w b s p sv a xs nx rv l) : Calls Tryz.prog 34 #[.pointer (some ⟨b, 0, none⟩)] w fun e w' => ∃ A k c, e = .returned (.slice A k c) ∧ k = (winL xs a).length ∧ Below w.heap.size w w' ∧ ∃ B vs, w.heap.size ≤ B ∧ k = vs.length ∧ PkR w0.heap.size B 25 s p a (winL xs a) (.slice A k c) vs w' := by
  have HN := Lib.hid (none_any w b)
  have HWI := Lib.hid (window_any h.pi.o)
  have H := Lib.hid h
  have hxs := h.pi.o.few
  have hax := h.pi.o.le
  obtain ⟨ts, hts⟩ : ∃ ts, ts = winL xs a := ⟨_, rfl⟩
  have hk16 : (winL xs a).length ≤ 16 := by rw [winL_len]; omega
  rw [← hts] at HWI hk16 ⊢
  obtain ⟨k, hk⟩ : ∃ k, k = ts.length := ⟨_, rfl⟩
  rw [← hk] at HWI hk16 ⊢
  have HK := Lib.hid hk
  have ha5 : a ≤ 5000 := by omega
  clear h hts hk hxs hax
  go_enter Tryz.func34, Tryz.ntmps34
  go_wp2_with (first
    | (go_at_call 64; (with_reducible refine HWI.out.mono ?_); rintro e w1 ⟨A1, c1, rfl, hr, hb⟩; have HR := Lib.hid (At.of_own hr); have HB := Lib.hid hb; clear hr hb)
    | (go_at_call 63; (with_reducible refine HN.out.mono ?_); rintro e w1 ⟨rfl, rfl⟩))
  clear HWI
  go_loopg [5, 21] k (fun (gh : Nat) s5 s21 wx => ∃ (i : Nat) (A2 : Option Addr) (c2 : Nat) (vs : List Value), gh = k - i ∧ i ≤ k ∧ s21 = .int .i64 (i : Int) ∧ s5 = .slice A2 i c2 ∧ Hid (i = vs.length) ∧ Hid (PkR w0.heap.size w1.heap.size 25 s p a ts (.slice A2 i c2) vs wx) ∧ Hid (Below w1.heap.size w1 wx))
  case atStart => exact ⟨0, none, 0, [], rfl, Nat.zero_le _, rfl, rfl, rfl, PkR.nil _ _ _ _ _ _ _ _, Below.refl _ _⟩
  case round =>
    obtain ⟨i, A2, c2, vs, rfl, hi, rfl, rfl, HV, HP, HW⟩ := hrel
    by_cases hlt : i < k
    · have t1 : (i : Int) < (k : Int) := by omega
      have t2 : (0 : Int) ≤ (i : Int) := by omega
      obtain ⟨N, hN⟩ : ∃ N : Int, N = ((a + i : Nat) : Int) := ⟨_, rfl⟩
      have HNN := Lib.hid hN
      have t3 : IntKind.i64.wrap ((a : Int) + (i : Int)) = N := by rw [IntKind.wrap_i64]; omega
      clear hN
      obtain ⟨g, o, t, rfl, ht, hcu⟩ := at_cell (HR.out.below HW.out) hlt
      have HT := Lib.hid ht
      have hpx := (H.out.below HB.out).below HW.out
      have HPK : Hid (Calls Tryz.prog 65 #[.pointer (some ⟨b, 0, none⟩), .int .i64 1, .int .i64 N] wr fun e w' => e = .returned (.agg #[.int .i64 1, .int .i64 s, .int .i64 p, .int .i64 N, .slice none 0 0]) ∧ Below wr.heap.size wr w') := packet_any hpx.pi 1 _
      obtain ⟨cv, cw, hcv⟩ := str_new t
      have q1 := fun W => (hcv W w0.heap.size).1
      have Q2 := Lib.hid (fun W => (hcv W w0.heap.size).2)
      obtain ⟨m, hm⟩ : ∃ m, m = t.size := ⟨_, rfl⟩
      rw [← hm] at q1 Q2
      clear hcv ht hpx hm
      go_upto_region 8 with (go_at_call 65; (with_reducible refine HPK.out.mono ?_); rintro e w4 ⟨rfl, hb⟩; have HB4 := Lib.hid hb; clear hb)
      have E5 := Tb.block_new w4 (.cells #[.int .i64 1, .int .i64 s, .int .i64 p, .int .i64 N, .slice none 0 0] 25)
      have hb5 : Below wr.heap.size wr (w4.alloc (.cells #[.int .i64 1, .int .i64 s, .int .i64 p, .int .i64 N, .slice none 0 0] 25)) := HB4.out.alloc HB4.out.size _
      have h45 : wr.heap.size ≤ w4.heap.size := HB4.out.size
      have hz5 : (w4.alloc (.cells #[.int .i64 1, .int .i64 s, .int .i64 p, .int .i64 N, .slice none 0 0] 25)).heap.size = w4.heap.size + 1 := by simp
      obtain ⟨W5, hW5⟩ : ∃ W, W = w4.alloc (.cells #[.int .i64 1, .int .i64 s, .int .i64 p, .int .i64 N, .slice none 0 0] 25) := ⟨_, rfl⟩
      obtain ⟨b5, hb5'⟩ : ∃ b, b = w4.heap.size := ⟨_, rfl⟩
      rw [← hW5] at E5 hb5 hz5 ⊢
      rw [← hb5'] at E5 h45 hz5 ⊢
      clear hW5 hb5' HB4 HPK
      have hq := Q2.out W5
      have E6 := Tb.block_kept E5 hq.2
      have f6 := fro5 E6
      have c6 := (blk5 E6).2.2.2.2
      have hz6 := hq.2.size
      have hq1 := hq.1
      rw [hz5] at hq1
      have E7 : ((cw W5).setCell ⟨b5, 4, none⟩ (.slice (some ⟨b5 + 1, 0, none⟩) m (cv W5))).heap[b5]? = some (.cells #[.int .i64 1, .int .i64 s, .int .i64 p, .int .i64 N, .slice (some ⟨b5 + 1, 0, none⟩) m (cv W5)] 25 (0, 0)) := by
        simp only [World.setCell, Array.getElem?_modify, if_true]; rw [E6]; rfl
      have hb7 : Below wr.heap.size wr ((cw W5).setCell ⟨b5, 4, none⟩ (.slice (some ⟨b5 + 1, 0, none⟩) m (cv W5))) := (hb5.trans (hq.2.mono hb5.size)).setCell h45 _
      have hu7 : BF w0.heap.size ((cw W5).setCell ⟨b5, 4, none⟩ (.slice (some ⟨b5 + 1, 0, none⟩) m (cv W5))) (.slice (some ⟨b5 + 1, 0, none⟩) m (cv W5)) (Fr.sb t) := hq1.kept (Kept.of_set _ ⟨b5, 4, none⟩ _) (fun g hf e => by
        have e2 : g = b5 := e
        rw [e2] at hf
        rcases hf with hf | ⟨t', cs, fr, h3, h4⟩
        · have := H.out.bel.size; have := HB.out.size; have := HW.out.size; omega
        · rw [E6] at h3
          simp only [Option.some.injEq, Obj.cells.injEq] at h3
          rw [← h3.2.1] at h4
          revert h4; decide)
      clear hcu
      go_upto_region 9 with fail
      obtain ⟨W7, hW7⟩ : ∃ W, W = (cw W5).setCell ⟨b5, 4, none⟩ (.slice (some ⟨b5 + 1, 0, none⟩) m (cv W5)) := ⟨_, rfl⟩
      obtain ⟨U, hU⟩ : ∃ U, U = Value.slice (some ⟨b5 + 1, 0, none⟩) m (cv W5) := ⟨_, rfl⟩
      rw [← hU] at hW7
      rw [← hU, ← hW7] at E7 hb7 hu7
      rw [← hU, ← hW7]
      obtain ⟨d0, d1, d2, d3, d4⟩ := blk5 E7
      have hPK := HP.out.below hb7
      have hvl := HV.out
      have htt := HT.out
      rw [hvl] at htt hPK
      have hww := HW.out.size
      have h77 := hb7.size
      obtain ⟨A8, c8, W8, hrun, hpk8, hb8⟩ := PkR.app pkT (by decide) (by decide) hPK (by have := H.out.bel.size; have := HB.out.size; omega) (by omega) (by omega) htt hu7
      rw [← hvl] at hrun hpk8
      rw [show ((a + i : Nat) : Int) = N from HNN.out.symm] at hrun
      have HP8 := Lib.hid hpk8
      have HB8 := Lib.hid ((HW.out.trans (hb7.mono hww)).trans hb8)
      have HV8 : Hid (i + 1 = (vs ++ [U]).length) := by show i + 1 = _; rw [List.length_append, List.length_singleton, hvl]
      clear hPK hvl htt hww h77 hpk8 hb8 hW7 hU hq hq1 E6 f6 c6 hz6 E7 hb7 hu7 hz5 E5 hb5 h45 q1
      go_wp2_with (at_builtin; refine wpList_app_run _ rfl _ _ 73 rfl (.slice A2 i c2) (.slice (some ⟨W7.heap.size, 0, none⟩) 1 1) rfl rfl (.slice A8 (i + 1) c8) W8 (hrun _) ?_)
      go_roundg (k - (i + 1))
      case measure => omega
      case rel => exact ⟨i + 1, A8, c8, vs ++ [U], rfl, hlt, by go_num, rfl, HV8, HP8, HB8⟩
    · obtain rfl : i = k := by omega
      have t1 : ¬ (i : Int) < (i : Int) := by omega
      go_wp2
      go_ret
      exact ⟨_, _, _, rfl, rfl, HB.out.trans (HW.out.mono HB.out.size), _, HB.out.size, vs, HV.out, HP.out⟩
end
end Go.Proofs.YtganokcmcdkdgaaGreat.Pi
