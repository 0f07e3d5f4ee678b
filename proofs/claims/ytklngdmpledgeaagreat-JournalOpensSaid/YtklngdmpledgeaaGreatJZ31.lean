/-
  The reference's Frame. Conditions: a number of an int, at most a thousand bytes.
-/
import Derived.Test.YtklngdmpledgeaaGreatJZ29
import Derived.Test.YtklngdmpledgeaaGreatJZ26
import Derived.Test.YtklngdmpledgeaaGreatJCts
import Derived.Test.YtklngdmpledgeaaGreatJZ9
import Derived.Test.YtklngdmpledgeaaGreatJZ22
namespace Go.Proofs.YtklngdmpledgeaaGreat.Jo
open Go.RowKit Fr Sr
attribute [local go_sem] Oper.semAt_some

set_option maxRecDepth 100000 in
set_option maxHeartbeats 4000000 in
theorem rframe_any (w : World) (x : Nat) (A : Option Addr) (n c : Nat) (l : List Int) (h : BAt w (.slice A n c) l) (hb : bok l) (hn : n ≤ 1000) (hx : x < 9223372036854775808) :
    Calls Tryz.prog 14 #[.agg #[.int .i64 (x : Int), .slice A n c]] w fun e w' => ∃ A' q c', e = .returned (.slice A' q c') ∧ q = (recF x l).length ∧ BAt w' (.slice A' q c') (recF x l) ∧ Below w.heap.size w w' := by
  have hL := h
  have hlm := h.len.1
  have h18 : (x : Int) < 18446744073709551616 := by omega
  obtain ⟨k, hk⟩ : ∃ k, k = (Oc.grp x).length := ⟨_, rfl⟩
  obtain ⟨p, hp⟩ : ∃ p, p = k + n := ⟨_, rfl⟩
  obtain ⟨q, hq⟩ : ∃ q, q = p + 8 := ⟨_, rfl⟩
  have hgl := (Oc.grp_len x).1
  have HD : Hid (k = (Oc.grp x).length ∧ p = k + n ∧ q = p + 8 ∧ l.length = n ∧ k ≤ 10 ∧ bok l ∧ n ≤ 1000 ∧ x < 9223372036854775808) := ⟨hk, hp, hq, hlm, by omega, hb, hn, hx⟩
  have hfin : q = (recF x l).length := by rw [recF_len]; omega
  have HF := Lib.hid hfin
  have HL := Lib.hid hL
  have hal := alloc_below w (.cells #[.int .i64 (x : Int), .slice A n c] 42)
  have hal2 : Below w.heap.size w (w.alloc (.cells #[.int .i64 (x : Int), .slice A n c] 42)).drew := hal.drew
  have HAL := Lib.hid hal2
  have hz : (w.alloc (.cells #[.int .i64 (x : Int), .slice A n c] 42)).drew.heap.size = w.heap.size + 1 := by show (w.alloc _).heap.size = _; simp
  have HZ := Lib.hid hz
  have hblk : (w.alloc (.cells #[.int .i64 (x : Int), .slice A n c] 42)).drew.heap[w.heap.size]? = some (.cells #[.int .i64 (x : Int), .slice A n c] 42 (0, 0)) := block_new w (.cells #[.int .i64 (x : Int), .slice A n c] 42)
  have HBK := Lib.hid hblk
  have HG := Lib.hid (Oc.fgroups_any (w.alloc (.cells #[.int .i64 (x : Int), .slice A n c] 42)).drew x (by omega))
  have hw : IntKind.u64.wrap (x : Int) = (x : Int) := by rw [IntKind.wrap_u64]; omega
  clear h hL hb hn hx hlm hk hp hq hgl hfin hal hal2 hz hblk
  go_enter Tryz.func14, Tryz.ntmps14
  go_wp2
  go_region_held3 (fun w' => w'.cell? ⟨w.heap.size, 0, none⟩ = some (.int .i64 (x : Int)) ∧ w'.cell? ⟨w.heap.size, 1, none⟩ = some (.slice A n c))
    (first
      | (exact D5)
      | (exact D2)
      | (exact D1)
      | go_keep)
    (first
      | (go_at_call 36; (with_reducible refine HM.out.mono ?_); rintro e w5 ⟨A5, c5, rfl, hb5, hw5⟩
         have HA5 := Lib.hid hb5
         have HB5 := Lib.hid (HB2.out.trans (hw5.mono HB2.out.size))
         have D5 : w5.cell? ⟨w.heap.size, 0, none⟩ = some (.int .i64 (x : Int)) ∧ w5.cell? ⟨w.heap.size, 1, none⟩ = some (.slice A n c) := ⟨(hw5.cell (p := ⟨w.heap.size, 0, none⟩) HLT.out).trans D2.1, (hw5.cell (p := ⟨w.heap.size, 1, none⟩) HLT.out).trans D2.2⟩
         clear hb5 hw5)
      | (refine step_app_run _ (by rfl) (.tmp 6) (.tmp 8) 22 22 (by rfl) _ _ (by rfl) (by rfl) (.slice A2 p c2) w2 hrun ?_)
      | (go_at_call 37; (with_reducible refine HG.out.mono ?_); rintro e w1 ⟨v1, rfl, ho1, hb1⟩
         have HB1 : Hid (Below w.heap.size w w1) := Lib.hid (HAL.out.trans (hb1.mono HAL.out.size))
         have hk1 : w1.heap[w.heap.size]? = some (.cells #[.int .i64 (x : Int), .slice A n c] 42 (0, 0)) := (hb1.block _ (by rw [HZ.out]; omega)).trans HBK.out
         have D1 : w1.cell? ⟨w.heap.size, 0, none⟩ = some (.int .i64 (x : Int)) ∧ w1.cell? ⟨w.heap.size, 1, none⟩ = some (.slice A n c) := ⟨by simp [World.cell?, hk1], by simp [World.cell?, hk1]⟩
         obtain ⟨A2, c2, w2, hrun, hbat2, hown2, hgr2⟩ := app_named (p := p) ho1 rfl (HL.out.kept HB1.out) HD.out.2.2.2.1 (by rw [← HD.out.1]; exact HD.out.2.1) (by have := HD.out; omega) hb1.size
         have hn1 : ∀ j, v1.ownBlock = some j → w.heap.size + 1 ≤ j := fun j hj => by have := (ho1.lt j hj).1; rw [HZ.out] at this; exact this
         have HB2 : Hid (Below w.heap.size w w2) := Lib.hid (HB1.out.grown hgr2 HB1.out.size (fun j hj => by have := hn1 j hj; omega))
         have hsz1 : w.heap.size < w1.heap.size := (Array.getElem?_eq_some_iff.1 hk1).1
         have hk2 : w2.heap[w.heap.size]? = some (.cells #[.int .i64 (x : Int), .slice A n c] 42 (0, 0)) := (hgr2.block _ hsz1 (fun e => by have := hn1 _ e.symm; omega)).trans hk1
         have D2 : w2.cell? ⟨w.heap.size, 0, none⟩ = some (.int .i64 (x : Int)) ∧ w2.cell? ⟨w.heap.size, 1, none⟩ = some (.slice A n c) := ⟨by simp [World.cell?, hk2], by simp [World.cell?, hk2]⟩
         have HLT : Hid (w.heap.size < w2.heap.size) := Lib.hid (Array.getElem?_eq_some_iff.1 hk2).1
         have HM := Lib.hid (rmake_any w2 A2 p c2 q (Oc.grp x ++ l) hbat2 (bok_app (grp_bok (by have := HD.out; omega)) HD.out.2.2.2.2.2.1) (by have := HD.out; omega) HD.out.2.2.1)
         clear ho1 hb1 hk1 hbat2 hown2 hgr2 hn1 hsz1 hk2))
  all_goals
    go_wp2
    go_ret
    exact ⟨A5, q, c5, rfl, HF.out, HA5.out, HB5.out⟩
end Go.Proofs.YtklngdmpledgeaaGreat.Jo

namespace Go.Proofs.YtklngdmpledgeaaGreat.Jo
open Go.RowKit Fr Sr
section
variable {w w' w2 : World} {p j t nx : Nat} {s s2 : S} {mb mb' : Option Nat} {L L' L2 : List Fi} {snd : Bool} {sv : Value} {xs : List Xr} {rs : List Re}
set_option maxRecDepth 100000 in
set_option maxHeartbeats 4000000 in
/-- Append, and where the new record's bytes lie. -/
theorem append_ok2 (h : JSt w p s mb L j t true nx sv xs rs) {A : Option Addr} {n c : Nat} {l : List Int} (hb : BAt w (.slice A n c) l) (hbk : bok l) (hfr : BK (fun k => ¬ Tj p mb L j t sv k) (.slice A n c) l) (hn : n ≤ 1000) (hnx : nx ≤ 4611686018427387903) (hx : xs.length < 900) (hE : appE s klog (recF nx l).length = 0) :
    Calls Tryz.prog 12 #[.pointer (some ⟨j, 0, none⟩), .slice A n c] w fun e w' => e = .returned (.tuple #[.int .i64 (nx : Int), .int .i64 0]) ∧ JMv w w' p mb L j t sv t (fun mb' L' sv' => ∃ xs', JSt w' p (appS s klog (recF nx l).length) mb' L' j t true (nx + 1) sv' xs' (rs ++ [(nx, l)]) ∧ Sr.Alike (appL s L klog (recF nx l)) L' ∧ ∃ y : Xr, xs' = xs ++ [y] ∧ BK (fun i => w.heap.size ≤ i) (bval y.2) l) := by
  have HSO := Lib.hid (sound_any h)
  have HSE := Lib.hid (seal_any w nx A n c l hb hbk hn (by omega))
  obtain ⟨⟨c0, c1, c2, c3⟩, _⟩ := four h.jr.blk
  obtain ⟨fl, hfl⟩ : ∃ fl, fl = recF nx l := ⟨_, rfl⟩
  have HFL := Lib.hid hfl
  rw [← hfl] at HSE hE ⊢
  have hflen : fl.length ≤ 1018 := by
    rw [hfl, recF_len]
    have := (Oc.grp_len nx).1
    have := hb.len.1
    omega
  have HFN := Lib.hid hflen
  have HH := Lib.hid (And.intro h (And.intro hb (And.intro hfr (And.intro hx hE))))
  have hz : ¬ ((4611686018427387903 : Int) < (nx : Int)) := by omega
  clear h hb hbk hfr hx hE hfl hflen
  go_enter Tryz.func12, Tryz.ntmps12
  go_wp2_with (first
    | (go_at_call 25; (with_reducible refine HPU.out.mono ?_); rintro e w5 ⟨rfl, hp5⟩; have HP5 := Lib.hid hp5; clear hp5)
    | (go_at_call 18; (with_reducible refine HCL.out.mono ?_); rintro e w4 ⟨A4, c4, rfl, ⟨hb4, hk4⟩, hbl4⟩
       have HB4 := Lib.hid hbl4
       have HK4 : Hid (BK (fun i => w.heap.size ≤ i) (.slice A4 n c4) l) := fun hp a n c ha => Nat.le_trans HB2.out.size (Nat.le_trans HJ3.out.2.2.1.1.size (hk4 hp a n c ha))
       obtain ⟨hj3, hlow⟩ := HJ3.out
       have hj4 := hj3.below hbl4
       have HPU := Lib.hid (jput_any (n := nx) hj4 (fun x hx => hj4.jr.lt x hx) (by omega) hnx (by have := HH.out.2.2.2.1; omega) hb4 (fun hp a n c ha ht => by
         have h1 : w3.heap.size ≤ a.block := hk4 hp a n c ha
         have h2 := hj3.tj_lt ht
         omega))
       clear hb4 hk4 hbl4 hj3 hlow hj4)
    | (go_at_call 34; (with_reducible refine HAD.out.mono ?_); rintro e w3 ⟨rfl, mb', L', sv', ⟨rfl, hj3, hal3⟩, ho3, hn3⟩
       have hbase := HB2.out.size
       have HCL := Lib.hid (clone_atK w3 A n c l (bat_step (HH.out.2.1.kept HB2.out) ho3 (fun hp a n c ha hs => HH.out.2.2.1 hp a n c ha hs)) (by omega))
       have hj3' : JSt w3 p (appS s klog fl.length) mb' L' j t true nx sv xs rs := hj3
       have HJ3 := Lib.hid (And.intro hj3' (And.intro hal3 (And.intro ho3 hn3)))
       clear hj3 hal3 ho3 hn3 hbase hj3')
    | (go_at_call 33; (with_reducible refine HSE.out.mono ?_); rintro e w2 ⟨A2, q2, c2', rfl, hq2, ⟨hb2, hk2⟩, hbl2⟩
       subst hq2
       have HB2 := Lib.hid hbl2
       have hj2 := HH.out.1.below hbl2
       have had := add_any hj2 hb2 (fun hp a n c ha ht => by
         have h1 : w.heap.size ≤ a.block := hk2 hp a n c ha
         have h2 := HH.out.1.tj_lt ht
         omega) (by have := HFN.out; omega)
       rw [HH.out.2.2.2.2] at had
       have HAD := Lib.hid had
       clear hb2 hk2 hbl2 hj2 had)
    | (go_at_call 32; (with_reducible refine HSO.out.mono ?_); rintro e w' ⟨rfl, rfl⟩))
  go_ret2
  obtain ⟨sv', hq, ho5, hn5⟩ := HP5.out
  obtain ⟨_, hal, ho3, hn3⟩ := HJ3.out
  refine ⟨rfl, JMv.below HB2.out (JMv.trans ho3 hn3 (JMv.below HB4.out ⟨mb', L', sv', ⟨_, hq, hal, _, rfl, HK4.out⟩, off_two ho5 (Off.refl (fun _ => False) _) (fun i hi => .inr hi) (fun _ h => h.elim), fun i hi => ?_⟩))⟩
  rcases hi with hi | hi
  · exact .inl (.inl hi)
  · exact (hn5 i hi).imp .inr id
end
end Go.Proofs.YtklngdmpledgeaaGreat.Jo

namespace Go.Proofs.YtklngdmpledgeaaGreat.Jo
open Go.RowKit Fr Sr

/-- A row of two, read. -/
theorem rows_two {w : World} {base : Nat} {v : Value} {b1 b2 : List Int} (h : RowsB w base (fun _ => False) v [b1, b2]) : ∃ g cap u1 u2, v = .slice (some ⟨g, 0, none⟩) 2 cap ∧ w.cell? ⟨g, 0, none⟩ = some u1 ∧ w.cell? ⟨g, 1, none⟩ = some u2 ∧ BAt w u1 b1 ∧ BAt w u2 b2 := by
  obtain ⟨us, h1, h2⟩ := h
  have hl : us.length = 2 := by have := h1.1; simpa using this
  obtain ⟨u1, u2, rfl⟩ : ∃ a b, us = [a, b] := by
    match us, hl with
    | [a, b], _ => exact ⟨a, b, rfl⟩
  obtain ⟨_, ⟨_, e⟩ | ⟨g, cap, cur, e, _⟩⟩ := id h1
  · cases e
  · subst e
    refine ⟨g, cap, u1, u2, rfl, ?_, ?_, (h2 0 u1 b1 rfl rfl).1, (h2 1 u2 b2 rfl rfl).1⟩
    · exact h1.cells (g := g) rfl 0 u1 rfl
    · exact h1.cells (g := g) rfl 1 u2 rfl
theorem k_recs {w : World} {p j t nx : Nat} {u : Int} {mb : Option Nat} {L : List Fi} {sv : Value} {xs : List Xr} (h : JSt w p (US u) mb L j t true nx sv xs [(1, [121]), (2, [122])]) : Calls Tryz.prog 28 #[.pointer (some ⟨j, 0, none⟩), .int .i64 0] w fun e w' => ∃ g cap u1 u2, e = .returned (.slice (some ⟨g, 0, none⟩) 2 cap) ∧ (w'.cell? ⟨g, 0, none⟩ = some u1 ∧ w'.cell? ⟨g, 1, none⟩ = some u2 ∧ BAt w' u1 [121] ∧ BAt w' u2 [122]) ∧ Below w.heap.size w w' := by
  have hpl : Tb.pl xs 0 = 0 := (pl_vals h.jr.vals 0).trans (by decide)
  have hr := records_any h 0 (fun r hr => by
    simp at hr
    rcases hr with rfl | rfl <;> decide)
  rw [hpl] at hr
  refine hr.mono ?_
  rintro e w' ⟨v, rfl, hv, hb⟩
  obtain ⟨g, cap, u1, u2, rfl, h1⟩ := rows_two hv
  exact ⟨g, cap, u1, u2, rfl, h1, hb⟩
theorem JMv.bel {w w' : World} {p j t t' P : Nat} {mb : Option Nat} {L : List Fi} {sv : Value} {Q : Option Nat → List Fi → Value → Prop} (h : JMv w w' p mb L j t sv t' Q) (hP : ∀ i, Tj p mb L j t sv i → P ≤ i) (hw : P ≤ w.heap.size) : Below P w w' ∧ ∃ mb' L' sv', Q mb' L' sv' ∧ ∀ i, Tj p mb' L' j t' sv' i → P ≤ i := by
  obtain ⟨mb', L', sv', hq, ho, hn⟩ := h
  refine ⟨ho.below hP hw, mb', L', sv', hq, fun i hi => ?_⟩
  rcases hn i hi with h1 | h1
  · exact hP i h1
  · omega
set_option maxRecDepth 100000 in
set_option maxHeartbeats 8000000 in
theorem known_any (w : World) : Calls Tryz.prog 13 #[] w fun e w' => e = .returned (.bool true) ∧ Below w.heap.size w w' := by
  have HN := Lib.hid (Sr.new_any w 1000 (by decide) (by decide))
  have kc := fun (w : World) (C : Array Value) (n c : Nat) => Lib.run_convert_bytes_const (P := Tryz.prog) w 22 5 C n c Tryz.underlying22 Tryz.underlying5
  obtain ⟨p, hp⟩ : ∃ p, p = w.heap.size := ⟨_, rfl⟩
  rw [← hp] at HN
  have HP := Lib.hid hp
  clear hp
  go_enter Tryz.func13, Tryz.ntmps13
  go_wp2_with (first
    | (go_at_call 28; (with_reducible refine (k_recs HJ6.out).mono ?_); rintro e w7 ⟨g7, c7, u1, u2, rfl, ⟨r1, r2, ha1, ha2⟩, hb7⟩
       have q1 : (convert 22 9 u1).run Tryz.prog w7 = .ok (.string { data := #[121] }) w7 := conv_any ha1 (fun x hx => by simp at hx; omega)
       have q2 : (convert 22 9 u2).run Tryz.prog w7 = .ok (.string { data := #[122] }) w7 := conv_any ha2 (fun x hx => by simp at hx; omega)
       have HB7 := Lib.hid hb7
       clear ha1 ha2 hb7)
    | (go_at_call 12; (with_reducible refine (k_app (w := w5) HJ5.out 122 (by decide) kB_num.2.2 (by decide) (by decide) HX5.out).mono ?_); rintro e w6 ⟨rfl, hm6⟩
       obtain ⟨hb6, mb6, L6, sv6, ⟨xs6, hj6, _⟩, hn6⟩ := hm6.bel HN5.out HZ5.out
       have HJ6 := Lib.hid hj6
       have HB6 : Hid (Below p w w6) := HB5.out.trans hb6
       clear hm6 hb6 hj6 hn6)
    | (go_at_call 35; (with_reducible refine (k_trim HJ4.out HA4.out).mono ?_); rintro e w5 ⟨rfl, t5, hm5⟩
       obtain ⟨hb5, mb5, L5, sv5, ⟨xs5, hj5⟩, hn5⟩ := hm5.bel HN4.out HZ4.out
       have HJ5 := Lib.hid hj5
       have HN5 := Lib.hid hn5
       have HX5 : Hid (xs5.length < 900) := by show xs5.length < 900; rw [hj5.jr.vals.1]; decide
       have HB5 : Hid (Below p w w5) := HB4.out.trans hb5
       have HZ5 : Hid (p ≤ w5.heap.size) := Nat.le_trans HZ4.out hb5.size
       clear hm5 hb5 hj5 hn5)
    | (go_at_call 12; (with_reducible refine (k_app (w := w3) HJ3.out 121 (by decide) kB_num.2.1 (by decide) (by decide) HX3.out).mono ?_); rintro e w4 ⟨rfl, hm4⟩
       obtain ⟨hb4, mb4, L4, sv4, ⟨xs4, hj4, hal4, _⟩, hn4⟩ := hm4.bel HN3.out HZ3.out
       have HJ4 := Lib.hid hj4
       have HN4 := Lib.hid hn4
       have HA4 : Hid (Sr.Alike [(klog, dv, kB)] L4) := by
         have h1 := (HA3.out.put klog dv dv (bytL L3 klog ++ recF 1 [121])).trans hal4
         rw [(HA3.out klog).2] at h1
         exact h1
       have HB4 : Hid (Below p w w4) := HB3.out.trans hb4
       have HZ4 : Hid (p ≤ w4.heap.size) := Nat.le_trans HZ3.out hb4.size
       clear hm4 hb4 hj4 hn4 hal4)
    | (go_at_call 12; (with_reducible refine (k_app (w := w2) HJ2.out 120 (by decide) kB_num.1 (by decide) (by decide) HX2.out).mono ?_); rintro e w3 ⟨rfl, hm3⟩
       obtain ⟨hb3, mb3, L3, sv3, ⟨xs3, hj3, hal3, _⟩, hn3⟩ := hm3.bel HN2.out HZ2.out
       have HJ3 := Lib.hid hj3
       have HN3 := Lib.hid hn3
       have HX3 : Hid (xs3.length < 900) := by show xs3.length < 900; rw [hj3.jr.vals.1]; decide
       have HA3 : Hid (Sr.Alike [(klog, dv, recF 0 [120])] L3) := by
         have h1 := (HA2.out.put klog dv dv (bytL L2 klog ++ recF 0 [120])).trans hal3
         rw [(HA2.out klog).2] at h1
         exact h1
       have HB3 : Hid (Below p w w3) := HB2.out.trans hb3
       have HZ3 : Hid (p ≤ w3.heap.size) := Nat.le_trans HZ2.out hb3.size
       clear hm3 hb3 hj3 hn3 hal3)
    | (go_at_call 7; go_loud (with_reducible refine (k_open H1.out.1).mono ?_); rintro e w2 ⟨j, t, sv, xs, mb2, L2, rfl, hj2, hal2, ho2, hn2⟩
       have HJ2 := Lib.hid hj2
       have HX2 : Hid (xs.length < 900) := by show xs.length < 900; rw [hj2.jr.vals.1]; decide
       have HA2 := Lib.hid hal2
       have HN2 : Hid (∀ i, Tj p mb2 L2 j t sv i → p ≤ i) := fun i hi => by
         rcases hn2 i hi with h1 | h1
         · omega
         · have := H1.out.2.2; omega
       have HB2 : Hid (Below p w w2) := by
         have h3 : Below p w1 w2 := ho2.below (fun i (hi : i = p) => by omega) (Nat.le_of_lt H1.out.2.2)
         exact H1.out.2.1.trans h3
       have HZ2 : Hid (p ≤ w2.heap.size) := Nat.le_trans (Nat.le_of_lt H1.out.2.2) ho2.1.size
       clear hj2 hal2 ho2 hn2)
    | (go_at_call 4; (with_reducible refine HN.out.mono ?_); rintro e w1 ⟨rfl, h1⟩; have H1 : Hid (StR w1 p (US 0) none [] ∧ Below p w w1 ∧ p < w1.heap.size) := h1; clear h1))
  go_ret
  refine ⟨rfl, ?_⟩
  rw [← HP.out]
  exact HB6.out.trans (HB7.out.mono (by rw [HP.out]; exact HB6.out.size))
end Go.Proofs.YtklngdmpledgeaaGreat.Jo
