/-
  The contract of Trim. Conditions: at most nineteen records stay, each of at most a thousand bytes.
-/
import Derived.Test.YtjijgoflbjbnfaaGreatVM22
namespace Go.Proofs.YtjijgoflbjbnfaaGreat.Jo
open Go.RowKit Go.Shelf Fr Sr
attribute [local go_sem] Oper.semAt_some

theorem listIn_app {F : Fence} {n : Nat} {P : Program} {w : World} {ops : Array Oper} {rest : List Oper} {o : Oper} {a : Act} {Q : Exit → Act → World → Prop} (hgd : o.guard = none) (s x : Operand) (t : TypeId)
    (ho : o.op = .call { callee := .builtin .append, args := #[s, x], argTypes := #[t, t] }) (vs vx : Value) (hs : a.eval s = vs) (hx : a.eval x = vx)
    (v' : Value) (w' : World) (hr : (Builtin.append_ #[t, t] o.type #[vs, vx]).run P w = .ok v' w') (h : wpListIn F n P ops Q rest (a.put o.dst v') w') : wpListIn F n P ops Q (o :: rest) a w :=
  stepIn_app hgd s x t ho vs vx hs hx v' w' hr h
/-- The frames of records. -/
def frs (rs : List Re) : List (List Int) := rs.map fun r => recF r.1 r.2
theorem frs_len (rs : List Re) (h : ∀ r ∈ rs, r.2.length ≤ 1000 ∧ r.1 < 9223372036854775808) : (frs rs).flatten.length ≤ 1018 * rs.length := by
  induction rs with
  | nil => simp [frs]
  | cons r l ih =>
    have h1 := h r (by simp)
    have h2 := ih fun q hq => h q (by simp [hq])
    have h3 : (recF r.1 r.2).length ≤ 1018 := by
      rw [recF_len]
      have := (Oc.grp_len r.1).1
      have := h1.1
      omega
    have h4 : (frs (r :: l)).flatten.length = (recF r.1 r.2).length + (frs l).flatten.length := by simp [frs]
    rw [h4, List.length_cons]
    omega
theorem vals_fr {w : World} {T : Nat → Prop} {xs : List Xr} {rs : List Re} (h : Vals w T xs rs) (k : Int) {pre r : List Xr} {x : Xr} (he : Tb.fromL xs k = pre ++ x :: r) : ∃ (b : List Int) (q : Re), (frs (rs.drop (Tb.pl xs k)))[pre.length]? = some (recF q.1 b) ∧ BAt w (bval x.2) b ∧ q ∈ rs ∧ q.2 = b ∧ x.1 = (q.1 : Int) := by
  have h1 : (xs.drop (Tb.pl xs k))[pre.length]? = some x := by
    have h2 : xs.drop (Tb.pl xs k) = pre ++ x :: r := he
    rw [h2]; simp
  rw [List.getElem?_drop] at h1
  have h3 : Tb.pl xs k + pre.length < rs.length := by
    rw [← h.1]; exact (List.getElem?_eq_some_iff.1 h1).1
  have h4 : rs[Tb.pl xs k + pre.length]? = some rs[Tb.pl xs k + pre.length] := List.getElem?_eq_getElem h3
  obtain ⟨a1, a2, a3⟩ := h.2 _ _ _ h1 h4
  exact ⟨_, rs[Tb.pl xs k + pre.length], by unfold frs; rw [List.getElem?_map, List.getElem?_drop, h4]; rfl, a2, List.getElem_mem h3, rfl, a1⟩
section
variable {w : World} {p j t nx : Nat} {s : Sr.S} {mb : Option Nat} {L : List Fi} {sv : Value} {xs : List Xr} {rs : List Re}
set_option maxRecDepth 100000 in
set_option maxHeartbeats 8000000 in
theorem trim_any (h : JSt w p s mb L j t true nx sv xs rs) (k : Int) (hl : ∀ r ∈ rs, r.2.length ≤ 1000 ∧ bok r.2) (h19 : (rs.drop (Tb.pl xs k)).length ≤ 19) :
    Calls Tryz.prog 34 #[.pointer (some ⟨j, 0, none⟩), .int .i64 k] w fun e w' => e = .returned (.int .i64 (rpE s L (frs (rs.drop (Tb.pl xs k))).flatten)) ∧
      ∃ t', JMv w w' p mb L j t sv t' (fun mb' L' sv' => ∃ xs', JSt w' p (rpS s L (frs (rs.drop (Tb.pl xs k))).flatten) mb' L' j t' (sndE true (rpE s L (frs (rs.drop (Tb.pl xs k))).flatten)) nx sv' xs' (if rpE s L (frs (rs.drop (Tb.pl xs k))).flatten = 0 then rs.drop (Tb.pl xs k) else rs) ∧ Sr.Alike (rpL s L (frs (rs.drop (Tb.pl xs k))).flatten) L') := by
  have HSO := Lib.hid (sound_any h)
  obtain ⟨⟨c0, c1, c2, c3⟩, _⟩ := four h.jr.blk
  obtain ⟨n0, hn0⟩ : ∃ n0, n0 = Tb.pl xs k := ⟨_, rfl⟩
  rw [← hn0] at h19 ⊢
  obtain ⟨FB, hFB⟩ : ∃ FB, FB = frs (rs.drop n0) := ⟨_, rfl⟩
  have hr63 : ∀ r ∈ rs, r.1 < 9223372036854775808 := fun r hr => by
    obtain ⟨i, hi, e⟩ := List.mem_iff_getElem.1 hr
    have hx : i < xs.length := by rw [h.jr.vals.1]; exact hi
    have h1 := (h.jr.vals.2 i _ _ (List.getElem?_eq_getElem hx) (List.getElem?_eq_getElem hi)).1
    have h2 := h.jr.lt _ (List.getElem_mem hx)
    have h3 := h.jr.nxl
    rw [e] at h1
    omega
  have hfl : FB.flatten.length ≤ 20000 := by
    have h1 := frs_len (rs.drop n0) fun r hr => ⟨(hl r (List.mem_of_mem_drop hr)).1, hr63 r (List.mem_of_mem_drop hr)⟩
    rw [← hFB] at h1
    omega
  rw [← hFB]
  obtain ⟨E, hE⟩ : ∃ E, E = rpE s L FB.flatten := ⟨_, rfl⟩
  rw [← hE]
  obtain ⟨rsE, hrsE⟩ : ∃ rsE, rsE = (if E = 0 then rs.drop n0 else rs) := ⟨_, rfl⟩
  rw [← hrsE]
  obtain ⟨W0, hW0⟩ : ∃ W0, W0 = (w.alloc (.cells #[.slice none 0 0] 109)).alloc (.cells #[.slice none 0 0] 32) := ⟨_, rfl⟩
  have hal : Below w.heap.size w W0 := by rw [hW0]; exact ((Below.refl _ _).alloc (Nat.le_refl _) _).alloc (by simp) _
  have hjl : j < w.heap.size := h.jr.oj_lt (.inl rfl)
  have c2' := (hal.cell (p := ⟨j, 2, none⟩) hjl).trans c2
  have hls : Boxed W0 w.heap.size 109 (.slice none 0 0) := by rw [hW0]; exact block_old (Boxed.new _ _ _) _
  have hlf : Boxed W0 (w.heap.size + 1) 32 (.slice none 0 0) := by
    have := Boxed.new (w.alloc (.cells #[.slice none 0 0] 109)) 32 (.slice none 0 0)
    rw [World.size_alloc] at this
    rw [hW0]; exact this
  have hz0 : W0.heap.size = w.heap.size + 1 + 1 := by rw [hW0]; simp
  have HW0 := Lib.hid hW0
  have HFB := Lib.hid hFB
  have HFL := Lib.hid hfl
  have H19 := Lib.hid h19
  have HN0 := Lib.hid hn0
  have HE := Lib.hid hE
  have HRE := Lib.hid hrsE
  have HH := Lib.hid h
  have HL := Lib.hid hl
  have H63 := Lib.hid hr63
  have HAL := Lib.hid hal
  have HLS := Lib.hid hls
  have HLF := Lib.hid hlf
  have HZ0 := Lib.hid hz0
  clear h hW0 hFB hfl h19 hn0 hE hrsE hl hr63 hal hls hlf c0 c1 c3 hz0
  refine (callsIn_wide (n := 10)).1 ?_
  refine callsIn_of_wp_marks Tryz.func34 rfl trivial ?_ rfl
  simp only [Tryz.ntmps34, List.size_toArray, List.length_cons, List.length_nil, Nat.reduceAdd, Nat.reduceSub, Array.replicate_succ, Array.replicate_zero, List.push_toArray, List.append_toArray, List.nil_append, List.cons_append]
  rw [HW0.out] at c2'
  gi_wp2_with (first
    | (refine ⟨trivial, ?_⟩; gi_at_call 60; refine (callsIn_wide.2 (Tb.Ib.from_any _ _ _)).mono ?_; rintro e w' ⟨rfl, rfl⟩)
    | (refine ⟨trivial, ?_⟩; gi_at_call 56; refine (callsIn_wide.2 HSO.out).mono ?_; rintro e w' ⟨rfl, rfl⟩))
  obtain ⟨W2, hW2⟩ : ∃ W2, W2 = (((w.alloc (.cells #[.slice none 0 0] 109)).alloc (.cells #[.slice none 0 0] 32)).alloc (.cells #[.pointer (some ⟨t, 0, none⟩)] 92)).alloc (.cells #[.int .i64 k] 3) := ⟨_, rfl⟩
  have h12 : Below W0.heap.size W0 W2 := by rw [hW2, HW0.out]; exact ((Below.refl _ _).alloc (Nat.le_refl _) _).alloc (by simp) _
  have hw2 : Below w.heap.size w W2 := HAL.out.trans (h12.mono HAL.out.size)
  have b1 : W2.heap[w.heap.size + 1 + 1]? = some (.cells #[.pointer (some ⟨t, 0, none⟩)] 92 (0, 0)) := by
    rw [hW2]
    have := block_new ((w.alloc (.cells #[.slice none 0 0] 109)).alloc (.cells #[.slice none 0 0] 32)) (.cells #[.pointer (some ⟨t, 0, none⟩)] 92)
    rw [World.size_alloc, World.size_alloc] at this
    exact block_old this _
  have b2 : W2.heap[w.heap.size + 1 + 1 + 1]? = some (.cells #[.int .i64 k] 3 (0, 0)) := by
    rw [hW2]
    have := block_new (((w.alloc (.cells #[.slice none 0 0] 109)).alloc (.cells #[.slice none 0 0] 32)).alloc (.cells #[.pointer (some ⟨t, 0, none⟩)] 92)) (.cells #[.int .i64 k] 3)
    rwa [World.size_alloc, World.size_alloc, World.size_alloc] at this
  have hI0 : TI w FB ([], .slice none 0 0, .slice none 0 0) W2 := ⟨block_kept HLS.out h12, block_kept HLF.out h12, World.ownsRow_nil _ _ _ _, World.ownsRow_nil _ _ _ _, fun i hi => by simp [Value.ownBlock] at hi, Nat.zero_le _, hw2⟩
  have hz2 : W2.heap.size = w.heap.size + 1 + 1 + 1 + 1 := by rw [hW2]; simp
  rw [← hW2]
  clear hW2 c2'
  have hasc := HH.out.jr.asc
  have hseq := from1_g (10 - 1) (by decide) (fun s : List Xr × Value × Value => s.1) (TK w) (w.heap.size + 1 + 1) w W2 (some ⟨t, 0, none⟩) k xs HH.out.jr.tab.read hasc (by have := HH.out.jr.few; omega) hw2 b1 b2
  have HX : Hid (∀ pre x r, Tb.fromL xs k = pre ++ x :: r → ∃ (b : List Int) (q : Re), FB[pre.length]? = some (recF q.1 b) ∧ BAt w (bval x.2) b ∧ (b.length ≤ 1000 ∧ bok b) ∧ x.1 = (q.1 : Int) ∧ q.1 < 9223372036854775808 ∧ FB.take (pre.length + 1) = FB.take pre.length ++ [recF q.1 b] ∧ pre.length ≤ 1000) := by
    show ∀ pre x r, Tb.fromL xs k = pre ++ x :: r → ∃ (b : List Int) (q : Re), FB[pre.length]? = some (recF q.1 b) ∧ BAt w (bval x.2) b ∧ (b.length ≤ 1000 ∧ bok b) ∧ x.1 = (q.1 : Int) ∧ q.1 < 9223372036854775808 ∧ FB.take (pre.length + 1) = FB.take pre.length ++ [recF q.1 b] ∧ pre.length ≤ 1000
    intro pre x r he
    obtain ⟨b, q, h1, h2, h3, h4, h5⟩ := vals_fr HH.out.jr.vals k he
    rw [← HN0.out, ← HFB.out] at h1
    have h6 : pre.length < FB.length := (List.getElem?_eq_some_iff.1 h1).1
    have h7 : FB.length ≤ 19 := by
      rw [HFB.out]; unfold frs; rw [List.length_map]; exact H19.out
    refine ⟨b, q, h1, h2, ?_, h5, H63.out q h3, by rw [List.take_add_one, h1]; rfl, by omega⟩
    rw [← h4]; exact HL.out q h3
  refine' range_g (β := List Xr × Value × Value) (seen := fun s => s.1) (K := TK w) (C := Lo w.heap.size) (E := fun _ _ => True) (key := tkey) (R := tR) (S := Tb.fromL xs k) (fun h _ => h) rfl (by decide) (gf := 93) (lb := #[.pointer (some ⟨w.heap.size + 1 + 1, 0, none⟩), .pointer (some ⟨w.heap.size + 1 + 1 + 1, 0, none⟩)]) rfl trivial (enters_of Tryz.func93 (by kernel_rfl) rfl)
    (B := w.heap.size) (by omega) hseq rfl (TI w FB) (fun _ _ _ => False) (TI.from (by omega)) (fun _ _ _ _ _ h _ _ => h) (fun s W' h i hi => ⟨by have := h.sb.lt; omega, by have := h.fb.lt; omega, fun e => by
      have := (h.fr.lt i e).2; omega, fun e => by
      have := (h.sr.lt i e).2; omega⟩) (fun _ _ _ _ _ _ => trivial) ([], .slice none 0 0, .slice none 0 0) rfl hI0 (fun i hi => ⟨by omega, by omega, by simp [Value.ownBlock], by simp [Value.ownBlock]⟩) _ ?assign ?body ?done ?stop
  case assign =>
    intro l x v W K hK
    gi_wp2
    exact hK
  case stop =>
    rintro D c s r W _ _ h _
    exact h.elim
  case body =>
    rintro l2 ⟨pre, fv, st⟩ x u W hI hu ⟨r, hr⟩
    subst hu
    obtain ⟨b, q, hb1, hb2, ⟨hbn, hbk⟩, hxq, hq63, hbt, hp1⟩ := HX.out pre x r hr
    have hxn := hb2.len.1
    have hcl := seal_any W q.1 x.2.A x.2.n x.2.c b (hb2.kept hI.bel) hbk (by omega) hq63
    have HC := Lib.hid hcl
    have HI := Lib.hid hI
    have HN : Hid (FB[pre.length]? = some (recF q.1 b) ∧ FB.take (pre.length + 1) = FB.take pre.length ++ [recF q.1 b] ∧ (FB.take (pre.length + 1)).flatten.length ≤ 1000000 ∧ 0 < (recF q.1 b).length ∧ pre.length ≤ 1000) := by
      refine ⟨hb1, hbt, ?_, by rw [recF_len]; omega, hp1⟩
      have h1 : FB.flatten.length = (FB.take (pre.length + 1)).flatten.length + (FB.drop (pre.length + 1)).flatten.length := by
        rw [← List.length_append, ← List.flatten_append, List.take_append_drop]
      have := HFL.out
      omega
    have hmx : Tryz.prog.follows .mixedOrders = true := by kernel_rfl
    have HXQ := Lib.hid hxq
    have hkey : tkey x = (q.1 : Int) := hxq
    clear hb1 hb2 hcl hI hxn hbt hxq
    unfold bval
    rw [hkey]
    gi_wp2_with (first
                 | (refine listIn_app rfl _ _ 32 rfl fv (.slice A3 n3 c3) rfl rfl (.slice A5 n5 c5) w5 hr5 ?_; clear hr5)
                 | (refine listIn_app rfl _ _ 109 rfl st (.slice (some ⟨_, 0, none⟩) 1 1) rfl rfl (.slice A8 n8 c8) w8 hr8 ?_; clear hr8)
                 | (refine ⟨trivial, ?_⟩; gi_at_call 57; refine (CallsIn.inRound l2 (callsIn_wide.2 HC.out)).mono ?_; rintro e w3 ⟨A3, n3, c3, rfl, hn3, ⟨hb3, hk3⟩, hbl3⟩
                    obtain ⟨hld, A5, n5, c5, w5, hr5, ⟨hc5, hf5⟩, w6, hw6, hc6, A8, n8, c8, w8, hr8, ⟨hc8, hf8⟩, hfin⟩ := trim_step (x := x) HI.out HN.out hb3 hbl3
                    subst hw6
                    rw [HXQ.out, World.size_setCell] at hr8
                    have HFIN := Lib.hid hfin
                    clear hn3 hb3 hk3 hbl3 hfin))
    exact HFIN.out
  case done =>
    rintro D ⟨pre, fv, st⟩ W hD hs hI hK
    have x1 : ∀ q : InW W, q.val.cell? ⟨w.heap.size + 1, 0, none⟩ = some fv := fun q => q.cell hI.fb.cell
    have HI := Lib.hid hI
    have HS := Lib.hid hs
    have HD := Lib.hid hD
    have HK := Lib.hid hK
    clear hI hs hD hK
    gi_wp2
    refine wpIn_wide.2 ?_
    refine wp_region_quiet_tail (C := fun w' => ∃ q : InW W, w' = q.val) 4 (by kernel_rfl) (by kernel_rfl) (by kernel_rfl) ⟨⟨W.drew, (Below.refl _ _).drew⟩, rfl⟩ ?_
    simp only [List.take_succ_cons, List.take_zero, List.drop_succ_cons, List.drop_zero]
    repeat (go_big_quiet_step (fail))
    refine wpQuiet_nil ?_
    rintro _ ⟨q0, rfl⟩
    obtain ⟨wq, hbq⟩ := q0
    try dsimp only
    clear x1
    have hI : TI w FB (pre, fv, st) wq := HI.out.kept (Off.of_below (fun _ => False) hbq) (fun _ e => e.elim)
    have hpe : pre = xs.drop n0 := by
      have h1 : pre = Tb.fromL xs k := HS.out
      rw [h1, HN0.out]; rfl
    have hplen : pre.length = FB.length := by
      rw [hpe, HFB.out]; unfold frs
      rw [List.length_map, List.length_drop, List.length_drop, HH.out.jr.vals.1]
    have hfr : wq.ownsRow (w.heap.size + 2) 5 1 fv FB.flatten.length (bv FB.flatten) := by
      have h1 := hI.fr
      have h2 : FB.take ((pre, fv, st) : List Xr × Value × Value).1.length = FB := by
        show FB.take pre.length = FB
        rw [hplen, List.take_length]
      rw [h2] at h1
      exact h1
    have hbat := BAt.of_own hfr
    obtain ⟨A, cap, hfv, _⟩ := id hbat
    obtain ⟨nb, hnb⟩ : ∃ nb, nb = FB.flatten.length := ⟨_, rfl⟩
    rw [← hnb] at hfv
    have hnl : nb ≤ 1000000 := by have := HFL.out; omega
    clear hnb
    subst hfv
    have hbkf : BK (fun k => ¬ Tj p mb L j t sv k) (.slice A nb cap) FB.flatten := fun hp a n c ha ht => by
      rcases hfr.2 with ⟨e, _⟩ | ⟨g, c', cur, e, hg, _⟩
      · rw [e] at ha; cases ha
      · rw [e] at ha; cases ha
        have h4 : g < w.heap.size := HH.out.tj_lt ht
        have h3 : w.heap.size + 2 ≤ g := hg
        omega
    have hjW := HH.out.below hI.bel
    have hrp := replace_any hjW hjW.st.keys hbat hbkf hnl
    rw [← HE.out] at hrp
    have HRP := Lib.hid hrp
    have HBW := Lib.hid hI.bel
    have HSB := Lib.hid hI.sb
    have HPE := Lib.hid hpe
    have HSR := Lib.hid hI.sr
    have HKQ : Hid (wq.heap[D]? = some (.deferred (some []))) := by
      have h1 := HK.out
      exact (hbq.block D (Array.getElem?_eq_some_iff.1 h1).1).trans h1
    have HDQ : Hid (w.heap.size ≤ D) := by
      have := HD.out
      show w.heap.size ≤ D
      omega
    have hpn : pre.length ≤ 19 := by
      have h1 := H19.out
      rw [HPE.out, List.length_drop, HH.out.jr.vals.1]
      rwa [List.length_drop] at h1
    have HPN := Lib.hid hpn
    have HTL : Hid (∀ i, Tj p mb L j t sv i → i < w.heap.size) := fun i hi => HH.out.tj_lt hi
    clear hplen hfr hbat hbkf hjW hrp hI hpe hpn hbq HI HK HD hnl
    by_cases hz : E = 0
    · have hEb : (E != 0) = false := by simpa using hz
      have HZ := Lib.hid hz
      clear hz
      go_wp2_with (go_at_call 61; (with_reducible refine HRP.out.mono ?_); rintro e w5 ⟨rfl, mb', L', sv', ⟨rfl, hj5, hal5⟩, ho5, hn5⟩
                   have hne : ¬ Tj p mb L j t sv w.heap.size := fun e => by have := HTL.out _ e; omega
                   have hb5 : Boxed w5 w.heap.size 109 st := (ho5.2 _ HSB.out.lt hne).trans HSB.out
                   have y1 := hb5.cell
                   have HJ5 := Lib.hid hj5
                   have HAL5 := Lib.hid hal5
                   have HO5 := Lib.hid ho5
                   have HN5 := Lib.hid hn5
                   have hrr5 : Tb.Ib.RowsR w5 st pre := Tb.Ib.RowsR.of_own (Oc.ownsRow_kept HSR.out (fun g hg => ho5.2 g (HSR.out.lt g hg).2 (fun e => by have := HTL.out _ e; have := (HSR.out.lt g hg).1; omega)))
                   have HOF := Lib.hid (Tb.Ib.of_any 19 Tb.Ib.sortOK_small w5 st pre hrr5 (by have := HPN.out; omega) HPN.out)
                   clear hj5 hal5 ho5 hn5 hrr5 hb5 hne)
      gi_wp2_with (refine ⟨trivial, ?_⟩; gi_at_call 49; refine (callsIn_wide.2 HOF.out).mono ?_; rintro e w6 ⟨tb, rfl, ht6, hb6⟩
                   have HT6 := Lib.hid ht6
                   have HB6 := Lib.hid hb6
                   have d2 := (four (HJ5.out.below hb6).jr.blk).1.2.2.1
                   have f2 := (four (HJ5.out.below hb6).jr.blk).2.2.2.1
                   clear ht6 hb6)
      have htf := trim_put (Q := fun _ L' => Sr.Alike (rpL s L FB.flatten) L') HBW.out HTL.out HKQ.out HDQ.out (trim_fin (Q := fun _ L' => Sr.Alike (rpL s L FB.flatten) L') HJ5.out HAL5.out HO5.out HN5.out n0 (by rw [← HPE.out]; exact HT6.out) HB6.out)
      refine ⟨by simp, .inl ⟨_, _, rfl, run_takeDeferred htf.1, ?_⟩⟩
      refine ⟨_, results_tmp rfl _ _ _, by rw [HZ.out]; rfl, ?_⟩
      have he : rsE = rs.drop n0 := by rw [HRE.out, if_pos HZ.out]
      rw [he]
      exact htf.2 _
    · have hEb : (E != 0) = true := by simpa using hz
      have HZ := Lib.hid hz
      clear hz
      go_wp2_with (go_at_call 61; (with_reducible refine HRP.out.mono ?_); rintro e w5 ⟨rfl, mb', L', sv', ⟨rfl, hj5, hal5⟩, ho5, hn5⟩
                   have HJ5 := Lib.hid hj5
                   have HAL5 := Lib.hid hal5
                   have HO5 := Lib.hid ho5
                   have HN5 := Lib.hid hn5
                   clear hj5 hal5 ho5 hn5)
      gi_wp2
      have htf := trim_put (t' := t) (rs' := rs) (Q := fun _ L' => Sr.Alike (rpL s L FB.flatten) L') HBW.out HTL.out HKQ.out HDQ.out ⟨mb', L', sv, ⟨xs, HJ5.out, HAL5.out⟩, HO5.out, HN5.out⟩
      refine ⟨by simp, .inl ⟨_, _, rfl, run_takeDeferred htf.1, ?_⟩⟩
      refine ⟨_, results_tmp rfl _ _ _, rfl, ?_⟩
      have he : rsE = rs := by rw [HRE.out, if_neg HZ.out]
      rw [he]
      exact htf.2 _
end
end Go.Proofs.YtjijgoflbjbnfaaGreat.Jo

namespace Go.Proofs.YtjijgoflbjbnfaaGreat.Jo
open Go.RowKit Fr Sr

theorem nn_app {body r : List Int} (h : body.length ≤ 1048568) : nn (frF body ++ r) = body.length := by
  have h1 : 4 ≤ (frF body).length := by rw [frF_len]; omega
  unfold nn
  rw [List.take_append_of_le_length h1]
  exact frF_nn h
theorem nxE_app {body r : List Int} (h : body.length ≤ 1048568) : nxE (frF body ++ r) = 0 ∧ nxB (frF body ++ r) = body ∧ nxN (frF body ++ r) = (frF body).length := by
  have hn := nn_app (r := r) h
  have hl := frF_len body
  have h0 : nxE (frF body ++ r) = 0 := by
    refine nxE_mk (by rw [hn]; exact h) (by rw [hn, List.length_append, hl]; omega) ?_
    unfold tail4
    rw [hn, List.drop_append_of_le_length (by rw [hl]; omega), List.take_append_of_le_length (by rw [List.length_drop, hl]; omega), List.take_append_of_le_length (by rw [hl]; omega)]
    have h1 := (nxE_ok (frF_nxE h)).2.2.2
    unfold tail4 at h1
    rw [frF_nn h] at h1
    exact h1
  refine ⟨h0, ?_, ?_⟩
  · unfold nxB
    rw [if_pos h0, hn, List.drop_append_of_le_length (by rw [hl]; omega), List.take_append_of_le_length (by rw [List.length_drop, hl]; omega)]
    have h1 := frF_body h
    rw [frF_nn h] at h1
    exact h1
  · unfold nxN
    rw [if_pos h0, hn, hl]
theorem nxE_torn {body : List Int} (h : body.length ≤ 1048568) {u : Nat} (hu : u < (frF body).length) : nxE ((frF body).take u) ≠ 0 := fun e => by
  obtain ⟨h1, _, h2, _⟩ := nxE_ok e
  have h3 : ((frF body).take u).length = u := by rw [List.length_take]; omega
  have h4 : nn ((frF body).take u) = body.length := by
    unfold nn
    rw [List.take_take, Nat.min_eq_left (by omega)]
    exact frF_nn h
  rw [h4, h3] at h2
  rw [frF_len] at hu
  omega
def cks : Nat → List Re → List Rc
  | _, [] => []
  | q, r :: l => (q + (recF r.1 r.2).length, r) :: cks (q + (recF r.1 r.2).length) l
def Sq : Nat → List Re → Prop
  | _, [] => True
  | n, r :: l => r.1 = n ∧ Sq (n + 1) l
def Bnd (rs : List Re) : Prop := ∀ r ∈ rs, r.2.length ≤ 1000 ∧ r.1 ≤ 4611686018427387903
theorem dec_grp {n : Nat} (l : List Int) (h : n ≤ 4611686018427387903) : dec (Oc.grp n ++ l) = some (n, l) := by
  have h1 := Oc.rg_grp n l (by omega)
  unfold dec
  rw [h1]
  exact if_pos ⟨rfl, h⟩
theorem body_le {r : Re} (h : r.2.length ≤ 1000 ∧ r.1 ≤ 4611686018427387903) : (Oc.grp r.1 ++ r.2).length ≤ 1048568 := by
  rw [List.length_append]
  have := (Oc.grp_len r.1).1
  omega
theorem cnt_go {t : List Int} (ht : nxE t ≠ 0) : ∀ (rs : List Re) (q nx k : Nat), Sq nx rs → Bnd rs → ((frs rs).flatten ++ t).length < k → cntF nx (Fr.frs k q ((frs rs).flatten ++ t)) = cks q rs
  | [], q, nx, k, _, _, hk => by
    cases k with
    | zero => omega
    | succ k =>
      have e : Fr.frs (k + 1) q ((frs []).flatten ++ t) = [] := by
        show Fr.frs (k + 1) q t = []
        rw [Fr.frs, if_neg ht]
      rw [e]; rfl
  | r :: rs, q, nx, k, hs, hb, hk => by
    cases k with
    | zero => omega
    | succ k =>
      have hr := hb r (by simp)
      have e1 : (frs (r :: rs)).flatten ++ t = recF r.1 r.2 ++ ((frs rs).flatten ++ t) := by simp [frs]
      obtain ⟨g1, g2, g3⟩ := nxE_app (r := (frs rs).flatten ++ t) (body_le hr)
      rw [e1] at hk ⊢
      have e2 : Fr.frs (k + 1) q (recF r.1 r.2 ++ ((frs rs).flatten ++ t)) = (q, Oc.grp r.1 ++ r.2) :: Fr.frs k (q + (recF r.1 r.2).length) ((frs rs).flatten ++ t) := by
        unfold recF
        rw [Fr.frs, if_pos g1, g2, g3, List.drop_left]
      rw [e2, cntF_good (dec_grp r.2 hr.2) (fun h => h.2 hs.1)]
      have h3 : 8 ≤ (recF r.1 r.2).length := by rw [recF_len]; omega
      have hk2 : ((frs rs).flatten ++ t).length < k := by rw [List.length_append] at hk; omega
      have e3 : q + (Oc.grp r.1 ++ r.2).length + 8 = q + (recF r.1 r.2).length := by rw [recF_len, List.length_append]; omega
      have ih := cnt_go ht rs (q + (recF r.1 r.2).length) (r.1 + 1) k (by rw [hs.1]; exact hs.2) (fun x hx => hb x (by simp [hx])) hk2
      rw [ih, cks]
      show (q + (Oc.grp r.1 ++ r.2).length + 8, (r.1, r.2)) :: _ = _
      rw [e3]
/-- What counts of the frames of records, with less than a frame behind them. -/
theorem cnt_frames {t : List Int} (ht : nxE t ≠ 0) (rs : List Re) (n : Nat) (hs : Sq n rs) (hb : Bnd rs) : cnt ((frs rs).flatten ++ t) = cks 0 rs := by
  unfold cnt allF
  cases rs with
  | nil => exact cnt_go ht [] 0 0 _ trivial hb (Nat.lt_succ_self _)
  | cons r rs =>
    have hr := hb r (by simp)
    have e1 : (frs (r :: rs)).flatten ++ t = recF r.1 r.2 ++ ((frs rs).flatten ++ t) := by simp [frs]
    obtain ⟨g1, g2, g3⟩ := nxE_app (r := (frs rs).flatten ++ t) (body_le hr)
    rw [e1]
    have e2 : Fr.frs ((recF r.1 r.2 ++ ((frs rs).flatten ++ t)).length + 1) 0 (recF r.1 r.2 ++ ((frs rs).flatten ++ t)) = (0, Oc.grp r.1 ++ r.2) :: Fr.frs (recF r.1 r.2 ++ ((frs rs).flatten ++ t)).length (0 + (recF r.1 r.2).length) ((frs rs).flatten ++ t) := by
      unfold recF
      rw [Fr.frs, if_pos g1, g2, g3, List.drop_left]
    rw [e2, cntF_good (dec_grp r.2 hr.2) (fun h => absurd h.1 (Nat.lt_irrefl 0))]
    have h3 : 8 ≤ (recF r.1 r.2).length := by rw [recF_len]; omega
    have ih := cnt_go ht rs (0 + (recF r.1 r.2).length) (r.1 + 1) (recF r.1 r.2 ++ ((frs rs).flatten ++ t)).length (by rw [hs.1]; exact hs.2) (fun x hx => hb x (by simp [hx])) (by
      have h4 : (recF r.1 r.2 ++ ((frs rs).flatten ++ t)).length = (recF r.1 r.2).length + ((frs rs).flatten ++ t).length := List.length_append
      omega)
    rw [ih, cks]
    show (0 + (Oc.grp r.1 ++ r.2).length + 8, (r.1, r.2)) :: _ = _
    have e3 : 0 + (Oc.grp r.1 ++ r.2).length + 8 = 0 + (recF r.1 r.2).length := by rw [recF_len, List.length_append]; omega
    rw [e3]
theorem recs_cks : ∀ (q : Nat) (rs : List Re), recs (cks q rs) = rs
  | _, [] => rfl
  | q, r :: l => by
    show r :: recs (cks _ l) = r :: l
    rw [recs_cks]
theorem whole_cks : ∀ (q : Nat) (rs : List Re), rs ≠ [] → whole (cks q rs) = q + (frs rs).flatten.length
  | _, [], h => absurd rfl h
  | q, [r], _ => by simp [cks, whole, frs]
  | q, r :: r2 :: l, _ => by
    have ih := whole_cks (q + (recF r.1 r.2).length) (r2 :: l) (by simp)
    have e1 : whole (cks q (r :: r2 :: l)) = whole (cks (q + (recF r.1 r.2).length) (r2 :: l)) := by
      simp [cks, whole]
    have e2 : (frs (r :: r2 :: l)).flatten.length = (recF r.1 r.2).length + (frs (r2 :: l)).flatten.length := by simp [frs]
    rw [e1, ih, e2]
    omega
theorem whole_frames (rs : List Re) : whole (cks 0 rs) = (frs rs).flatten.length := by
  cases rs with
  | nil => rfl
  | cons r l => rw [whole_cks 0 (r :: l) (by simp)]; omega
end Go.Proofs.YtjijgoflbjbnfaaGreat.Jo

namespace Go.Proofs.YtjijgoflbjbnfaaGreat.Jo
open Go.RowKit Fr Sr

/-- The file of a journal: frames of records, and less than a frame. -/
def Has (L : List Fi) (rs : List Re) : Prop := ∃ t, nxE t ≠ 0 ∧ bytL L klog = (frs rs).flatten ++ t ∧ bok t ∧ (0 < (bytL L klog).length → hasL L klog = true)
theorem Has.alike {L L' : List Fi} {rs : List Re} (h : Has L rs) (ha : Sr.Alike L L') : Has L' rs := by
  obtain ⟨t, h1, h2, h3, h4⟩ := h
  exact ⟨t, h1, by rw [(ha klog).2]; exact h2, h3, by rw [(ha klog).2, (ha klog).1]; exact h4⟩
theorem frs_bok {rs : List Re} (h : Bnd rs) (hb : ∀ r ∈ rs, bok r.2) : bok (frs rs).flatten := fun x hx => by
  simp only [frs, List.mem_flatten, List.mem_map] at hx
  obtain ⟨l, ⟨r, hr, rfl⟩, hx⟩ := hx
  have h1 := (h r hr).2
  exact frF_bok (bok_app (grp_bok (by omega)) (hb r hr)) x hx
/-- Opened again there are these records. -/
theorem open_has {w : World} {p n : Nat} {st : S} {mb : Option Nat} {L : List Fi} {rs : List Re} (h : StR w p st mb L) (ha : st.a = false) (hd : st.d = false) (hh : Has L rs) (hs : Sq n rs) (hb : Bnd rs) (hbk : ∀ r ∈ rs, bok r.2) (hl : (bytL L klog).length ≤ 800) :
    Calls Tryz.prog 26 #[.pointer (some ⟨p, 0, none⟩)] w fun e w' => ∃ s2 L2 nx, Opened w w' p mb L s2 L2 nx rs e := by
  obtain ⟨t, h1, h2, h3, h4⟩ := hh
  have hc : cnt (bytL L klog) = cks 0 rs := by rw [h2]; exact cnt_frames h1 rs n hs hb
  have hok : bok (bytL L klog) := by rw [h2]; exact bok_app (frs_bok hb hbk) h3
  have hcE : whole (cnt (bytL L klog)) < (bytL L klog).length → cutE st L klog (whole (cnt (bytL L klog)) : Int) = 0 := fun hlt => by
    have e1 : fnd st.d L klog [klog] = 0 := by
      unfold fnd
      rw [hd, okLog, if_neg (by decide), h4 (by omega)]
      rfl
    have e2 : ¬ ((whole (cnt (bytL L klog)) : Int) < 0 ∨ ((bytL L klog).length : Int) < (whole (cnt (bytL L klog)) : Int)) := by omega
    have e3 : useS st 1 = st := by unfold useS; rw [ha]; rfl
    unfold cutE
    rw [e1, if_neg (by decide), if_neg e2, e3]
    unfold dwn; rw [hd]; rfl
  have ho := open_ok h hd hl hok hcE
  refine ho.mono fun e w' hop => ?_
  rw [hc, recs_cks] at hop
  exact ⟨_, _, _, hop⟩
end Go.Proofs.YtjijgoflbjbnfaaGreat.Jo

namespace Go.Proofs.YtjijgoflbjbnfaaGreat.Jo
open Go.RowKit Fr Sr

theorem nxE_nil : nxE [] ≠ 0 := by unfold nxE; simp
/-- The file is the frames of records, nothing behind. -/
def Cl (L : List Fi) (rs : List Re) : Prop := bytL L klog = (frs rs).flatten ∧ (0 < (bytL L klog).length → hasL L klog = true)
theorem Cl.has {L : List Fi} {rs : List Re} (h : Cl L rs) : Has L rs := ⟨[], nxE_nil, by rw [List.append_nil]; exact h.1, (fun x hx => by cases hx), h.2⟩
theorem Cl.alike {L L' : List Fi} {rs : List Re} (h : Cl L rs) (ha : Sr.Alike L L') : Cl L' rs := ⟨by rw [(ha klog).2]; exact h.1, by rw [(ha klog).2, (ha klog).1]; exact h.2⟩
theorem frs_snoc (rs : List Re) (r : Re) : (frs (rs ++ [r])).flatten = (frs rs).flatten ++ recF r.1 r.2 := by simp [frs]
theorem Cl.put (L : List Fi) {bs : List Int} {rs : List Re} (v : Value) (h : bs = (frs rs).flatten) : Cl (putL L klog (v, bs)) rs := ⟨by rw [byt_put]; simp [h], fun _ => by rw [has_put]; simp⟩
/-- A store that is armed, not down. -/
structure Ar (s : S) (u : Nat) : Prop where
  a : s.a = true
  n : s.n = u
  d : s.d = false
  room : s.room = 100000
theorem Ar.use {s : S} {u : Nat} (h : Ar s u) (m : Nat) : (u < m → useN s (m : Int) = u ∧ dwn (useS s (m : Int)) = 14) ∧ (m ≤ u → useN s (m : Int) = m ∧ dwn (useS s (m : Int)) = 0 ∧ Ar (useS s (m : Int)) (u - m)) := by
  refine ⟨fun hu => ?_, fun hu => ?_⟩
  · have h1 : s.n < (m : Int) := by rw [h.n]; omega
    refine ⟨?_, ?_⟩
    · unfold useN; rw [if_pos ⟨h.a, h1⟩, h.n]
    · unfold useS; rw [if_pos h.a, if_pos h1]; rfl
  · have h1 : ¬ s.n < (m : Int) := by rw [h.n]; omega
    refine ⟨?_, ?_, ?_⟩
    · unfold useN; rw [if_neg (fun e => h1 e.2)]
    · unfold useS; rw [if_pos h.a, if_neg h1]; unfold dwn; rw [if_neg (by rw [h.d]; decide)]
    · unfold useS; rw [if_pos h.a, if_neg h1]
      exact ⟨h.a, by show s.n - (m : Int) = _; rw [h.n]; omega, h.d, h.room⟩
theorem app_die {s : S} {u nx : Nat} {l : List Int} {L : List Fi} {rs : List Re} (h : Ar s u) (hc : Cl L rs) (hus : s.used + (recF nx l).length ≤ 100000) (hb : l.length ≤ 1000 ∧ nx ≤ 4611686018427387903) (hbk : bok l) :
    ((appE s klog (recF nx l).length = 0 ∧ Has (appL s L klog (recF nx l)) (rs ++ [(nx, l)])) ∨ (appE s klog (recF nx l).length = 14 ∧ Has (appL s L klog (recF nx l)) rs)) ∧ (bytL (appL s L klog (recF nx l)) klog).length ≤ (frs rs).flatten.length + (recF nx l).length := by
  obtain ⟨f, hf⟩ : ∃ f, f = recF nx l := ⟨_, rfl⟩
  have e1 : rdy s.d [klog] = 0 := by rw [h.d]; exact okLog
  have e2 : ¬ s.room < s.used + (f.length : Int) := by rw [h.room, hf]; omega
  rw [← hf]
  have hE : appE s klog f.length = dwn (useS s (f.length : Int)) := by
    unfold appE; rw [e1, if_neg (by decide), if_neg e2]
  have hL : appL s L klog f = (if 0 < useN s (f.length : Int) ∨ f.length = 0 then putL L klog (dv, bytL L klog ++ f.take (useN s (f.length : Int)).toNat) else L) := by
    unfold appL; rw [if_pos ⟨e1, e2⟩]
  rw [hE, hL]
  refine ⟨?_, ?_⟩
  rotate_left
  · split
    · rw [byt_put, if_pos rfl, List.length_append, hc.1]
      have := List.length_take_le (useN s (f.length : Int)).toNat f
      have h2 : (List.take (useN s (f.length : Int)).toNat f).length ≤ f.length := by rw [List.length_take]; omega
      omega
    · rw [hc.1]; omega
  rcases Nat.lt_or_ge u f.length with hu | hu
  · obtain ⟨g1, g2⟩ := (h.use f.length).1 hu
    refine .inr ⟨g2, ?_⟩
    rw [g1]
    by_cases h0 : u = 0
    · rw [if_neg (by omega)]
      exact hc.has
    · rw [if_pos (.inl (by omega))]
      refine ⟨f.take u, ?_, ?_, ?_, fun _ => by rw [has_put]; simp⟩
      · have hbd : (Oc.grp nx ++ l).length ≤ 1048568 := body_le (r := (nx, l)) hb
        have h3 := nxE_torn hbd (u := u) (by have : f.length = (frF (Oc.grp nx ++ l)).length := by rw [hf]; rfl
                                             omega)
        rw [hf]; exact h3
      · rw [byt_put]; simp [hc.1]
      · intro x hx
        have h4 := List.mem_of_mem_take hx
        rw [hf] at h4
        exact frF_bok (bok_app (grp_bok (by omega)) hbk) x h4
  · obtain ⟨g1, g2, _⟩ := (h.use f.length).2 hu
    refine .inl ⟨g2, ?_⟩
    have hf8 : 0 < f.length := by rw [hf, recF_len]; omega
    rw [g1, if_pos (.inl (by omega))]
    refine (Cl.put L dv ?_).has
    rw [frs_snoc, hc.1, ← hf]
    simp
theorem wri_klog {s : S} {L : List Fi} {bs : List Int} {rs : List Re} (h : Cl L rs) : Cl (wriL s L knew bs) rs := by
  have hne : ¬ knew = klog := by decide
  unfold wriL
  split
  · split
    · refine ⟨by rw [byt_put, if_neg hne]; exact h.1, ?_⟩
      rw [byt_put, if_neg hne, has_put, if_neg hne]
      exact h.2
    · exact h
  · exact h
theorem trim_die {s : S} {u : Nat} {bs : List Int} {L : List Fi} {rs Q : List Re} (h : Ar s u) (hc : Cl L rs) (_hk : KeysL L) (hQ : bs = (frs Q).flatten) (hus : s.used + bs.length ≤ 100000) :
    ((rpE s L bs = 0 ∧ Has (rpL s L bs) Q) ∨ (rpE s L bs = 14 ∧ Has (rpL s L bs) rs)) ∧ (bytL (rpL s L bs) klog).length ≤ max (frs rs).flatten.length bs.length := by
  have hne : ¬ knew = klog := by decide
  have e1 : rdy s.d [knew] = 0 := by rw [h.d]; decide
  have e2 : ¬ s.room < s.used - ((bytL L knew).length : Int) + (bs.length : Int) := by rw [h.room]; omega
  have hm : (1 : Int) + (bs.length : Int) = ((1 + bs.length : Nat) : Int) := by omega
  have hE : wriE s L knew bs.length = dwn (useS s ((1 + bs.length : Nat) : Int)) := by
    unfold wriE; rw [e1, if_neg (by decide), if_neg e2, hm]
  rcases Nat.lt_or_ge u (1 + bs.length) with hu | hu
  · obtain ⟨_, g2⟩ := (h.use (1 + bs.length)).1 hu
    have hE14 : wriE s L knew bs.length = 14 := hE.trans g2
    have f1 : rpE s L bs = 14 := by unfold rpE; rw [hE14, if_neg (by decide)]
    have f2 : rpL s L bs = wriL s L knew bs := by unfold rpL; rw [hE14, if_neg (by decide)]
    exact ⟨.inr ⟨f1, by rw [f2]; exact (wri_klog hc).has⟩, by rw [f2, (wri_klog hc).1]; omega⟩
  · obtain ⟨g1, g2, g3⟩ := (h.use (1 + bs.length)).2 hu
    have hE0 : wriE s L knew bs.length = 0 := hE.trans g2
    have f1 : rpE s L bs = renE (wriS s L knew bs.length) (wriL s L knew bs) knew klog := by unfold rpE; rw [hE0, if_pos rfl]
    have f2 : rpL s L bs = renL (wriS s L knew bs.length) (wriL s L knew bs) knew klog := by unfold rpL; rw [hE0, if_pos rfl]
    have hB : wriB s L knew bs.length := ⟨e1, e2⟩
    have hL1 : wriL s L knew bs = putL L knew (dv, bs) := by
      unfold wriL
      rw [if_pos hB, hm, g1, if_pos (by omega)]
      congr 2
      have : (((1 + bs.length : Nat) : Int) - 1).toNat = bs.length := by omega
      rw [this, List.take_length]
    have hS1 : Ar (wriS s L knew bs.length) (u - (1 + bs.length)) := by
      unfold wriS
      rw [if_pos hB, hm, g1, if_pos (by omega)]
      exact ⟨g3.a, g3.n, g3.d, g3.room⟩
    obtain ⟨s1, hs1⟩ : ∃ s1, s1 = wriS s L knew bs.length := ⟨_, rfl⟩
    rw [← hs1] at hS1 f1 f2
    rw [f1, f2, hL1]
    have hfn : fnd s1.d (putL L knew (dv, bs)) knew [klog, knew] = 0 := by
      have h3 : rdy s1.d [klog, knew] = 0 := by rw [hS1.d]; decide
      unfold fnd
      rw [h3, if_neg (by decide), has_put, if_pos rfl]
      rfl
    have hR : renE s1 (putL L knew (dv, bs)) knew klog = dwn (useS s1 1) := by unfold renE; rw [hfn, if_neg (by decide)]
    have hc1 : Cl (putL L knew (dv, bs)) rs := by rw [← hL1]; exact wri_klog hc
    rcases Nat.lt_or_ge (u - (1 + bs.length)) 1 with hv | hv
    · obtain ⟨k1, k2⟩ := (hS1.use 1).1 hv
      have hRL : renL s1 (putL L knew (dv, bs)) knew klog = putL L knew (dv, bs) := by
        unfold renL
        refine if_neg fun e => ?_
        have e3 := e.2
        have k1' : useN s1 1 = ((u - (1 + bs.length) : Nat) : Int) := k1
        omega
      rw [hRL]
      exact ⟨.inr ⟨hR.trans k2, hc1.has⟩, by rw [hc1.1]; omega⟩
    · obtain ⟨k1, k2, _⟩ := (hS1.use 1).2 hv
      have hRL : renL s1 (putL L knew (dv, bs)) knew klog = putL (delL (putL L knew (dv, bs)) knew) klog (dv, bs) := by
        unfold renL
        rw [if_pos ⟨hfn, k1⟩, byt_put, if_pos rfl]
      rw [hRL]
      exact ⟨.inl ⟨hR.trans k2, (Cl.put _ dv hQ).has⟩, by rw [byt_put, if_pos rfl]; omega⟩
end Go.Proofs.YtjijgoflbjbnfaaGreat.Jo
