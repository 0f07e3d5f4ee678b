/-
  The contract of Trim. Conditions: at most nineteen records stay, each of at most a thousand bytes.
-/
import Derived.Test.YtklngdmpledgeaaGreatJZ24
namespace Go.Proofs.YtklngdmpledgeaaGreat.Jo
open Go.RowKit Go.Shelf Fr Sr
attribute [local go_sem] Oper.semAt_some

theorem listIn_app {F : Fence} {n : Nat} {P : Program} {w : World} {ops : Array Oper} {rest : List Oper} {o : Oper} {a : Act} {Q : Exit → Act → World → Prop} (hgd : o.guard = none) (s x : Operand) (t : TypeId)
    (ho : o.op = .call { callee := .builtin .append, args := #[s, x], argTypes := #[t, t] }) (vs vx : Value) (hs : a.eval s = vs) (hx : a.eval x = vx)
    (v' : Value) (w' : World) (hr : (Builtin.append_ #[t, t] o.type #[vs, vx]).run P w = .ok v' w') (h : wpListIn F n P ops Q rest (a.put o.dst v') w') : wpListIn F n P ops Q (o :: rest) a w :=
  stepIn_app hgd s x t ho vs vx hs hx v' w' hr h
/-- The frames of records. -/
def frs (rs : List Re) : List (List Int) := rs.map fun r => recF r.1 r.2
theorem frs_len (rs : List Re) (h : ∀ r ∈ rs, r.2.length ≤ 1000 ∧ r.1 < 9223372036854775808) : (frs rs).flatten.length ≤ 1018 * rs.length := by
  induction rs with
  | nil => simp [frs]
  | cons r l ih =>
    have h1 := h r (by simp)
    have h2 := ih fun q hq => h q (by simp [hq])
    have h3 : (recF r.1 r.2).length ≤ 1018 := by
      rw [recF_len]
      have := (Oc.grp_len r.1).1
      have := h1.1
      omega
    have h4 : (frs (r :: l)).flatten.length = (recF r.1 r.2).length + (frs l).flatten.length := by simp [frs]
    rw [h4, List.length_cons]
    omega
theorem vals_fr {w : World} {T : Nat → Prop} {xs : List Xr} {rs : List Re} (h : Vals w T xs rs) (k : Int) {pre r : List Xr} {x : Xr} (he : Tb.fromL xs k = pre ++ x :: r) : ∃ (b : List Int) (q : Re), (frs (rs.drop (Tb.pl xs k)))[pre.length]? = some (recF q.1 b) ∧ BAt w (bval x.2) b ∧ q ∈ rs ∧ q.2 = b ∧ x.1 = (q.1 : Int) := by
  have h1 : (xs.drop (Tb.pl xs k))[pre.length]? = some x := by
    have h2 : xs.drop (Tb.pl xs k) = pre ++ x :: r := he
    rw [h2]; simp
  rw [List.getElem?_drop] at h1
  have h3 : Tb.pl xs k + pre.length < rs.length := by
    rw [← h.1]; exact (List.getElem?_eq_some_iff.1 h1).1
  have h4 : rs[Tb.pl xs k + pre.length]? = some rs[Tb.pl xs k + pre.length] := List.getElem?_eq_getElem h3
  obtain ⟨a1, a2, a3⟩ := h.2 _ _ _ h1 h4
  exact ⟨_, rs[Tb.pl xs k + pre.length], by unfold frs; rw [List.getElem?_map, List.getElem?_drop, h4]; rfl, a2, List.getElem_mem h3, rfl, a1⟩
section
variable {w : World} {p j t nx : Nat} {s : Sr.S} {mb : Option Nat} {L : List Fi} {sv : Value} {xs : List Xr} {rs : List Re}
set_option maxRecDepth 100000 in
set_option maxHeartbeats 8000000 in
theorem trim_any (h : JSt w p s mb L j t true nx sv xs rs) (k : Int) (hl : ∀ r ∈ rs, r.2.length ≤ 1000 ∧ bok r.2) (h19 : (rs.drop (Tb.pl xs k)).length ≤ 19) :
    Calls Tryz.prog 35 #[.pointer (some ⟨j, 0, none⟩), .int .i64 k] w fun e w' => e = .returned (.int .i64 (rpE s L (frs (rs.drop (Tb.pl xs k))).flatten)) ∧
      ∃ t', JMv w w' p mb L j t sv t' (fun mb' L' sv' => ∃ xs', JSt w' p (rpS s L (frs (rs.drop (Tb.pl xs k))).flatten) mb' L' j t' (sndE true (rpE s L (frs (rs.drop (Tb.pl xs k))).flatten)) nx sv' xs' (if rpE s L (frs (rs.drop (Tb.pl xs k))).flatten = 0 then rs.drop (Tb.pl xs k) else rs) ∧ Sr.Alike (rpL s L (frs (rs.drop (Tb.pl xs k))).flatten) L') := by
  have HSO := Lib.hid (sound_any h)
  obtain ⟨⟨c0, c1, c2, c3⟩, _⟩ := four h.jr.blk
  obtain ⟨n0, hn0⟩ : ∃ n0, n0 = Tb.pl xs k := ⟨_, rfl⟩
  rw [← hn0] at h19 ⊢
  obtain ⟨FB, hFB⟩ : ∃ FB, FB = frs (rs.drop n0) := ⟨_, rfl⟩
  have hr63 : ∀ r ∈ rs, r.1 < 9223372036854775808 := fun r hr => by
    obtain ⟨i, hi, e⟩ := List.mem_iff_getElem.1 hr
    have hx : i < xs.length := by rw [h.jr.vals.1]; exact hi
    have h1 := (h.jr.vals.2 i _ _ (List.getElem?_eq_getElem hx) (List.getElem?_eq_getElem hi)).1
    have h2 := h.jr.lt _ (List.getElem_mem hx)
    have h3 := h.jr.nxl
    rw [e] at h1
    omega
  have hfl : FB.flatten.length ≤ 20000 := by
    have h1 := frs_len (rs.drop n0) fun r hr => ⟨(hl r (List.mem_of_mem_drop hr)).1, hr63 r (List.mem_of_mem_drop hr)⟩
    rw [← hFB] at h1
    omega
  rw [← hFB]
  obtain ⟨E, hE⟩ : ∃ E, E = rpE s L FB.flatten := ⟨_, rfl⟩
  rw [← hE]
  obtain ⟨rsE, hrsE⟩ : ∃ rsE, rsE = (if E = 0 then rs.drop n0 else rs) := ⟨_, rfl⟩
  rw [← hrsE]
  obtain ⟨W0, hW0⟩ : ∃ W0, W0 = (w.alloc (.cells #[.slice none 0 0] 93)).alloc (.cells #[.slice none 0 0] 22) := ⟨_, rfl⟩
  have hal : Below w.heap.size w W0 := by rw [hW0]; exact ((Below.refl _ _).alloc (Nat.le_refl _) _).alloc (by simp) _
  have hjl : j < w.heap.size := h.jr.oj_lt (.inl rfl)
  have c2' := (hal.cell (p := ⟨j, 2, none⟩) hjl).trans c2
  have hls : Boxed W0 w.heap.size 93 (.slice none 0 0) := by rw [hW0]; exact block_old (Boxed.new _ _ _) _
  have hlf : Boxed W0 (w.heap.size + 1) 22 (.slice none 0 0) := by
    have := Boxed.new (w.alloc (.cells #[.slice none 0 0] 93)) 22 (.slice none 0 0)
    rw [World.size_alloc] at this
    rw [hW0]; exact this
  have hz0 : W0.heap.size = w.heap.size + 1 + 1 := by rw [hW0]; simp
  have HW0 := Lib.hid hW0
  have HFB := Lib.hid hFB
  have HFL := Lib.hid hfl
  have H19 := Lib.hid h19
  have HN0 := Lib.hid hn0
  have HE := Lib.hid hE
  have HRE := Lib.hid hrsE
  have HH := Lib.hid h
  have HL := Lib.hid hl
  have H63 := Lib.hid hr63
  have HAL := Lib.hid hal
  have HLS := Lib.hid hls
  have HLF := Lib.hid hlf
  have HZ0 := Lib.hid hz0
  clear h hW0 hFB hfl h19 hn0 hE hrsE hl hr63 hal hls hlf c0 c1 c3 hz0
  refine (callsIn_wide (n := 10)).1 ?_
  refine callsIn_of_wp_marks Tryz.func35 rfl trivial ?_ rfl
  simp only [Tryz.ntmps35, List.size_toArray, List.length_cons, List.length_nil, Nat.reduceAdd, Nat.reduceSub, Array.replicate_succ, Array.replicate_zero, List.push_toArray, List.append_toArray, List.nil_append, List.cons_append]
  rw [HW0.out] at c2'
  gi_wp2_with (first
    | (refine ⟨trivial, ?_⟩; gi_at_call 52; refine (callsIn_wide.2 (Tb.Ib.from_any _ _ _)).mono ?_; rintro e w' ⟨rfl, rfl⟩)
    | (refine ⟨trivial, ?_⟩; gi_at_call 32; refine (callsIn_wide.2 HSO.out).mono ?_; rintro e w' ⟨rfl, rfl⟩))
  obtain ⟨W2, hW2⟩ : ∃ W2, W2 = (((w.alloc (.cells #[.slice none 0 0] 93)).alloc (.cells #[.slice none 0 0] 22)).alloc (.cells #[.pointer (some ⟨t, 0, none⟩)] 64)).alloc (.cells #[.int .i64 k] 3) := ⟨_, rfl⟩
  have h12 : Below W0.heap.size W0 W2 := by rw [hW2, HW0.out]; exact ((Below.refl _ _).alloc (Nat.le_refl _) _).alloc (by simp) _
  have hw2 : Below w.heap.size w W2 := HAL.out.trans (h12.mono HAL.out.size)
  have b1 : W2.heap[w.heap.size + 1 + 1]? = some (.cells #[.pointer (some ⟨t, 0, none⟩)] 64 (0, 0)) := by
    rw [hW2]
    have := block_new ((w.alloc (.cells #[.slice none 0 0] 93)).alloc (.cells #[.slice none 0 0] 22)) (.cells #[.pointer (some ⟨t, 0, none⟩)] 64)
    rw [World.size_alloc, World.size_alloc] at this
    exact block_old this _
  have b2 : W2.heap[w.heap.size + 1 + 1 + 1]? = some (.cells #[.int .i64 k] 3 (0, 0)) := by
    rw [hW2]
    have := block_new (((w.alloc (.cells #[.slice none 0 0] 93)).alloc (.cells #[.slice none 0 0] 22)).alloc (.cells #[.pointer (some ⟨t, 0, none⟩)] 64)) (.cells #[.int .i64 k] 3)
    rwa [World.size_alloc, World.size_alloc, World.size_alloc] at this
  have hI0 : TI w FB ([], .slice none 0 0, .slice none 0 0) W2 := ⟨block_kept HLS.out h12, block_kept HLF.out h12, World.ownsRow_nil _ _ _ _, World.ownsRow_nil _ _ _ _, fun i hi => by simp [Value.ownBlock] at hi, Nat.zero_le _, hw2⟩
  have hz2 : W2.heap.size = w.heap.size + 1 + 1 + 1 + 1 := by rw [hW2]; simp
  rw [← hW2]
  clear hW2 c2'
  have hasc := HH.out.jr.asc
  have hseq := from1_g (10 - 1) (by decide) (fun s : List Xr × Value × Value => s.1) (TK w) (w.heap.size + 1 + 1) w W2 (some ⟨t, 0, none⟩) k xs HH.out.jr.tab.read hasc (by have := HH.out.jr.few; omega) hw2 b1 b2
  have HX : Hid (∀ pre x r, Tb.fromL xs k = pre ++ x :: r → ∃ (b : List Int) (q : Re), FB[pre.length]? = some (recF q.1 b) ∧ BAt w (bval x.2) b ∧ (b.length ≤ 1000 ∧ bok b) ∧ x.1 = (q.1 : Int) ∧ q.1 < 9223372036854775808 ∧ FB.take (pre.length + 1) = FB.take pre.length ++ [recF q.1 b] ∧ pre.length ≤ 1000) := by
    show ∀ pre x r, Tb.fromL xs k = pre ++ x :: r → ∃ (b : List Int) (q : Re), FB[pre.length]? = some (recF q.1 b) ∧ BAt w (bval x.2) b ∧ (b.length ≤ 1000 ∧ bok b) ∧ x.1 = (q.1 : Int) ∧ q.1 < 9223372036854775808 ∧ FB.take (pre.length + 1) = FB.take pre.length ++ [recF q.1 b] ∧ pre.length ≤ 1000
    intro pre x r he
    obtain ⟨b, q, h1, h2, h3, h4, h5⟩ := vals_fr HH.out.jr.vals k he
    rw [← HN0.out, ← HFB.out] at h1
    have h6 : pre.length < FB.length := (List.getElem?_eq_some_iff.1 h1).1
    have h7 : FB.length ≤ 19 := by
      rw [HFB.out]; unfold frs; rw [List.length_map]; exact H19.out
    refine ⟨b, q, h1, h2, ?_, h5, H63.out q h3, by rw [List.take_add_one, h1]; rfl, by omega⟩
    rw [← h4]; exact HL.out q h3
  refine' range_g (β := List Xr × Value × Value) (seen := fun s => s.1) (K := TK w) (C := Lo w.heap.size) (E := fun _ _ => True) (key := tkey) (R := tR) (S := Tb.fromL xs k) (fun h _ => h) rfl (by decide) (gf := 75) (lb := #[.pointer (some ⟨w.heap.size + 1 + 1, 0, none⟩), .pointer (some ⟨w.heap.size + 1 + 1 + 1, 0, none⟩)]) rfl trivial (enters_of Tryz.func75 (by kernel_rfl) rfl)
    (B := w.heap.size) (by omega) hseq rfl (TI w FB) (fun _ _ _ => False) (TI.from (by omega)) (fun _ _ _ _ _ h _ _ => h) (fun s W' h i hi => ⟨by have := h.sb.lt; omega, by have := h.fb.lt; omega, fun e => by
      have := (h.fr.lt i e).2; omega, fun e => by
      have := (h.sr.lt i e).2; omega⟩) (fun _ _ _ _ _ _ => trivial) ([], .slice none 0 0, .slice none 0 0) rfl hI0 (fun i hi => ⟨by omega, by omega, by simp [Value.ownBlock], by simp [Value.ownBlock]⟩) _ ?assign ?body ?done ?stop
  case assign =>
    intro l x v W K hK
    gi_wp2
    exact hK
  case stop =>
    rintro D c s r W _ _ h _
    exact h.elim
  case body =>
    rintro l2 ⟨pre, fv, st⟩ x u W hI hu ⟨r, hr⟩
    subst hu
    obtain ⟨b, q, hb1, hb2, ⟨hbn, hbk⟩, hxq, hq63, hbt, hp1⟩ := HX.out pre x r hr
    have hxn := hb2.len.1
    have hcl := seal_any W q.1 x.2.A x.2.n x.2.c b (hb2.kept hI.bel) hbk (by omega) hq63
    have HC := Lib.hid hcl
    have HI := Lib.hid hI
    have HN : Hid (FB[pre.length]? = some (recF q.1 b) ∧ FB.take (pre.length + 1) = FB.take pre.length ++ [recF q.1 b] ∧ (FB.take (pre.length + 1)).flatten.length ≤ 1000000 ∧ 0 < (recF q.1 b).length ∧ pre.length ≤ 1000) := by
      refine ⟨hb1, hbt, ?_, by rw [recF_len]; omega, hp1⟩
      have h1 : FB.flatten.length = (FB.take (pre.length + 1)).flatten.length + (FB.drop (pre.length + 1)).flatten.length := by
        rw [← List.length_append, ← List.flatten_append, List.take_append_drop]
      have := HFL.out
      omega
    have hmx : Tryz.prog.follows .mixedOrders = true := by kernel_rfl
    have HXQ := Lib.hid hxq
    have hkey : tkey x = (q.1 : Int) := hxq
    clear hb1 hb2 hcl hI hxn hbt hxq
    unfold bval
    rw [hkey]
    gi_wp2_with (first
                 | (refine listIn_app rfl _ _ 22 rfl fv (.slice A3 n3 c3) rfl rfl (.slice A5 n5 c5) w5 hr5 ?_; clear hr5)
                 | (refine listIn_app rfl _ _ 93 rfl st (.slice (some ⟨_, 0, none⟩) 1 1) rfl rfl (.slice A8 n8 c8) w8 hr8 ?_; clear hr8)
                 | (refine ⟨trivial, ?_⟩; gi_at_call 33; refine (CallsIn.inRound l2 (callsIn_wide.2 HC.out)).mono ?_; rintro e w3 ⟨A3, n3, c3, rfl, hn3, ⟨hb3, hk3⟩, hbl3⟩
                    obtain ⟨hld, A5, n5, c5, w5, hr5, ⟨hc5, hf5⟩, w6, hw6, hc6, A8, n8, c8, w8, hr8, ⟨hc8, hf8⟩, hfin⟩ := trim_step (x := x) HI.out HN.out hb3 hbl3
                    subst hw6
                    rw [HXQ.out, World.size_setCell] at hr8
                    have HFIN := Lib.hid hfin
                    clear hn3 hb3 hk3 hbl3 hfin))
    exact HFIN.out
  case done =>
    rintro D ⟨pre, fv, st⟩ W hD hs hI hK
    have x1 : ∀ q : InW W, q.val.cell? ⟨w.heap.size + 1, 0, none⟩ = some fv := fun q => q.cell hI.fb.cell
    have HI := Lib.hid hI
    have HS := Lib.hid hs
    have HD := Lib.hid hD
    have HK := Lib.hid hK
    clear hI hs hD hK
    gi_wp2
    refine wpIn_wide.2 ?_
    refine wp_region_quiet_tail (C := fun w' => ∃ q : InW W, w' = q.val) 4 (by kernel_rfl) (by kernel_rfl) (by kernel_rfl) ⟨⟨W.drew, (Below.refl _ _).drew⟩, rfl⟩ ?_
    simp only [List.take_succ_cons, List.take_zero, List.drop_succ_cons, List.drop_zero]
    repeat (go_big_quiet_step (fail))
    refine wpQuiet_nil ?_
    rintro _ ⟨q0, rfl⟩
    obtain ⟨wq, hbq⟩ := q0
    try dsimp only
    clear x1
    have hI : TI w FB (pre, fv, st) wq := HI.out.kept (Off.of_below (fun _ => False) hbq) (fun _ e => e.elim)
    have hpe : pre = xs.drop n0 := by
      have h1 : pre = Tb.fromL xs k := HS.out
      rw [h1, HN0.out]; rfl
    have hplen : pre.length = FB.length := by
      rw [hpe, HFB.out]; unfold frs
      rw [List.length_map, List.length_drop, List.length_drop, HH.out.jr.vals.1]
    have hfr : wq.ownsRow (w.heap.size + 2) 5 1 fv FB.flatten.length (bv FB.flatten) := by
      have h1 := hI.fr
      have h2 : FB.take ((pre, fv, st) : List Xr × Value × Value).1.length = FB := by
        show FB.take pre.length = FB
        rw [hplen, List.take_length]
      rw [h2] at h1
      exact h1
    have hbat := BAt.of_own hfr
    obtain ⟨A, cap, hfv, _⟩ := id hbat
    obtain ⟨nb, hnb⟩ : ∃ nb, nb = FB.flatten.length := ⟨_, rfl⟩
    rw [← hnb] at hfv
    have hnl : nb ≤ 1000000 := by have := HFL.out; omega
    clear hnb
    subst hfv
    have hbkf : BK (fun k => ¬ Tj p mb L j t sv k) (.slice A nb cap) FB.flatten := fun hp a n c ha ht => by
      rcases hfr.2 with ⟨e, _⟩ | ⟨g, c', cur, e, hg, _⟩
      · rw [e] at ha; cases ha
      · rw [e] at ha; cases ha
        have h4 : g < w.heap.size := HH.out.tj_lt ht
        have h3 : w.heap.size + 2 ≤ g := hg
        omega
    have hjW := HH.out.below hI.bel
    have hrp := replace_any hjW hjW.st.keys hbat hbkf hnl
    rw [← HE.out] at hrp
    have HRP := Lib.hid hrp
    have HBW := Lib.hid hI.bel
    have HSB := Lib.hid hI.sb
    have HPE := Lib.hid hpe
    have HSR := Lib.hid hI.sr
    have HKQ : Hid (wq.heap[D]? = some (.deferred (some []))) := by
      have h1 := HK.out
      exact (hbq.block D (Array.getElem?_eq_some_iff.1 h1).1).trans h1
    have HDQ : Hid (w.heap.size ≤ D) := by
      have := HD.out
      show w.heap.size ≤ D
      omega
    have hpn : pre.length ≤ 19 := by
      have h1 := H19.out
      rw [HPE.out, List.length_drop, HH.out.jr.vals.1]
      rwa [List.length_drop] at h1
    have HPN := Lib.hid hpn
    have HTL : Hid (∀ i, Tj p mb L j t sv i → i < w.heap.size) := fun i hi => HH.out.tj_lt hi
    clear hplen hfr hbat hbkf hjW hrp hI hpe hpn hbq HI HK HD hnl
    by_cases hz : E = 0
    · have hEb : (E != 0) = false := by simpa using hz
      have HZ := Lib.hid hz
      clear hz
      go_wp2_with (go_at_call 59; (with_reducible refine HRP.out.mono ?_); rintro e w5 ⟨rfl, mb', L', sv', ⟨rfl, hj5, hal5⟩, ho5, hn5⟩
                   have hne : ¬ Tj p mb L j t sv w.heap.size := fun e => by have := HTL.out _ e; omega
                   have hb5 : Boxed w5 w.heap.size 93 st := (ho5.2 _ HSB.out.lt hne).trans HSB.out
                   have y1 := hb5.cell
                   have HJ5 := Lib.hid hj5
                   have HAL5 := Lib.hid hal5
                   have HO5 := Lib.hid ho5
                   have HN5 := Lib.hid hn5
                   have hrr5 : Tb.Ib.RowsR w5 st pre := Tb.Ib.RowsR.of_own (Oc.ownsRow_kept HSR.out (fun g hg => ho5.2 g (HSR.out.lt g hg).2 (fun e => by have := HTL.out _ e; have := (HSR.out.lt g hg).1; omega)))
                   have HOF := Lib.hid (Tb.Ib.of_any 19 Tb.Ib.sortOK_small w5 st pre hrr5 (by have := HPN.out; omega) HPN.out)
                   clear hj5 hal5 ho5 hn5 hrr5 hb5 hne)
      gi_wp2_with (refine ⟨trivial, ?_⟩; gi_at_call 23; refine (callsIn_wide.2 HOF.out).mono ?_; rintro e w6 ⟨tb, rfl, ht6, hb6⟩
                   have HT6 := Lib.hid ht6
                   have HB6 := Lib.hid hb6
                   have d2 := (four (HJ5.out.below hb6).jr.blk).1.2.2.1
                   have f2 := (four (HJ5.out.below hb6).jr.blk).2.2.2.1
                   clear ht6 hb6)
      have htf := trim_put (Q := fun _ L' => Sr.Alike (rpL s L FB.flatten) L') HBW.out HTL.out HKQ.out HDQ.out (trim_fin (Q := fun _ L' => Sr.Alike (rpL s L FB.flatten) L') HJ5.out HAL5.out HO5.out HN5.out n0 (by rw [← HPE.out]; exact HT6.out) HB6.out)
      refine ⟨by simp, .inl ⟨_, _, rfl, run_takeDeferred htf.1, ?_⟩⟩
      refine ⟨_, results_tmp rfl _ _ _, by rw [HZ.out]; rfl, ?_⟩
      have he : rsE = rs.drop n0 := by rw [HRE.out, if_pos HZ.out]
      rw [he]
      exact htf.2 _
    · have hEb : (E != 0) = true := by simpa using hz
      have HZ := Lib.hid hz
      clear hz
      go_wp2_with (go_at_call 59; (with_reducible refine HRP.out.mono ?_); rintro e w5 ⟨rfl, mb', L', sv', ⟨rfl, hj5, hal5⟩, ho5, hn5⟩
                   have HJ5 := Lib.hid hj5
                   have HAL5 := Lib.hid hal5
                   have HO5 := Lib.hid ho5
                   have HN5 := Lib.hid hn5
                   clear hj5 hal5 ho5 hn5)
      gi_wp2
      have htf := trim_put (t' := t) (rs' := rs) (Q := fun _ L' => Sr.Alike (rpL s L FB.flatten) L') HBW.out HTL.out HKQ.out HDQ.out ⟨mb', L', sv, ⟨xs, HJ5.out, HAL5.out⟩, HO5.out, HN5.out⟩
      refine ⟨by simp, .inl ⟨_, _, rfl, run_takeDeferred htf.1, ?_⟩⟩
      refine ⟨_, results_tmp rfl _ _ _, rfl, ?_⟩
      have he : rsE = rs := by rw [HRE.out, if_neg HZ.out]
      rw [he]
      exact htf.2 _
end
end Go.Proofs.YtklngdmpledgeaaGreat.Jo
