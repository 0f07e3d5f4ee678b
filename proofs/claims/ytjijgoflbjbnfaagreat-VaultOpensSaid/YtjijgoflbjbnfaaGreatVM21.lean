/-
  The contracts of told, add, Sound, and of Append. Conditions: at most a thousand bytes.
-/
import Derived.Test.YtjijgoflbjbnfaaGreatVM20
import Derived.Test.YtjijgoflbjbnfaaGreatVM10
namespace Go.Proofs.YtjijgoflbjbnfaaGreat.Jo
open Go.RowKit Fr Sr

def Tj (p : Nat) (mb : Option Nat) (L : List Fi) (j t : Nat) (sv : Value) (i : Nat) : Prop := own p mb L i ∨ oj j t sv i
/-- What a step of a journal leaves. -/
def JMv (w w' : World) (p : Nat) (mb : Option Nat) (L : List Fi) (j t : Nat) (sv : Value) (t' : Nat) (Q : Option Nat → List Fi → Value → Prop) : Prop :=
  ∃ mb' L' sv', Q mb' L' sv' ∧ Off (Tj p mb L j t sv) w w' ∧ ∀ i, Tj p mb' L' j t' sv' i → Tj p mb L j t sv i ∨ w.heap.size ≤ i
theorem off_two {S1 S2 T : Nat → Prop} {w w1 w2 : World} (h : Off S1 w w1) (k : Off S2 w1 w2) (h1 : ∀ i, S1 i → T i) (h2 : ∀ i, S2 i → T i ∨ w.heap.size ≤ i) : Off T w w2 :=
  ⟨h.1.trans k.1, fun i hi hn => (k.2 i (Nat.lt_of_lt_of_le hi h.1.size) (fun e => (h2 i e).elim hn (fun e2 => by omega))).trans (h.2 i hi (fun e => hn (h1 i e)))⟩
section
variable {w w' w2 : World} {p j t nx : Nat} {s s2 : S} {mb mb' : Option Nat} {L L' L2 : List Fi} {snd : Bool} {sv : Value} {xs : List Xr} {rs : List Re}
theorem JSt.tj_lt (h : JSt w p s mb L j t snd nx sv xs rs) {i : Nat} (hi : Tj p mb L j t sv i) : i < w.heap.size := hi.elim (own_lt h.st) h.jr.oj_lt
theorem JMv.below {t' : Nat} {Q : Option Nat → List Fi → Value → Prop} (hb : Below w.heap.size w w') (h : JMv w' w2 p mb L j t sv t' Q) : JMv w w2 p mb L j t sv t' Q := by
  obtain ⟨mb', L', sv', hq, ho, hn⟩ := h
  exact ⟨mb', L', sv', hq, (Off.of_below _ hb).trans ho (fun i hi => .inl hi), fun i hi => (hn i hi).imp id (fun h1 => Nat.le_trans hb.size h1)⟩
theorem JMv.trans {t1 t' : Nat} {mb1 : Option Nat} {L1 : List Fi} {sv1 : Value} {Q : Option Nat → List Fi → Value → Prop} (ho : Off (Tj p mb L j t sv) w w') (hn : ∀ i, Tj p mb1 L1 j t1 sv1 i → Tj p mb L j t sv i ∨ w.heap.size ≤ i) (h : JMv w' w2 p mb1 L1 j t1 sv1 t' Q) : JMv w w2 p mb L j t sv t' Q := by
  obtain ⟨mb', L', sv', hq, ho2, hn2⟩ := h
  refine ⟨mb', L', sv', hq, ho.trans ho2 hn, fun i hi => ?_⟩
  rcases hn2 i hi with h1 | h1
  · exact hn i h1
  · exact .inr (Nat.le_trans ho.1.size h1)
set_option maxRecDepth 100000 in
theorem told_ok (w : World) (j : Nat) (E : Int) (hE : ¬ E = 14) : Calls Tryz.prog 89 #[.pointer (some ⟨j, 0, none⟩), .int .i64 E] w fun e w' => e = .returned (.int .i64 E) ∧ w = w' := by
  go_enter Tryz.func89, Tryz.ntmps89
  go_wp2
  go_ret
  exact ⟨rfl, rfl⟩
set_option maxRecDepth 100000 in
theorem told_down (w : World) (j : Nat) (v : Value) (hc : w.cell? ⟨j, 1, none⟩ = some v) (hf : w.frozen? ⟨j, 1, none⟩ = false) : Calls Tryz.prog 89 #[.pointer (some ⟨j, 0, none⟩), .int .i64 14] w fun e w' => e = .returned (.int .i64 14) ∧ w' = w.setCell ⟨j, 1, none⟩ (.bool false) := by
  go_enter Tryz.func89, Tryz.ntmps89
  go_wp2
  go_ret
  exact ⟨rfl, rfl⟩
set_option maxRecDepth 100000 in
theorem orNone_some (w : World) (j : Nat) : Calls Tryz.prog 64 #[.pointer (some ⟨j, 0, none⟩)] w fun e w' => e = .returned (.pointer (some ⟨j, 0, none⟩)) ∧ w = w' := by
  go_enter Tryz.func64, Tryz.ntmps64
  go_wp2
  go_ret
  exact ⟨rfl, rfl⟩
set_option maxRecDepth 100000 in
theorem sound_any (h : JSt w p s mb L j t snd nx sv xs rs) : Calls Tryz.prog 56 #[.pointer (some ⟨j, 0, none⟩)] w fun e w' => e = .returned (.bool snd) ∧ w = w' := by
  obtain ⟨⟨c0, c1, c2, c3⟩, _⟩ := four h.jr.blk
  clear h
  go_enter Tryz.func56, Tryz.ntmps56
  go_wp2_with (go_at_call 64; refine (orNone_some _ _).mono ?_; rintro e w' ⟨rfl, rfl⟩)
  go_ret
  exact ⟨rfl, rfl⟩
/-- Behind told: sound as long as the store did not die. -/
def sndE (snd : Bool) (E : Int) : Bool := if E = 14 then false else snd
theorem told_any (h : JSt w p s mb L j t snd nx sv xs rs) (E : Int) : Calls Tryz.prog 89 #[.pointer (some ⟨j, 0, none⟩), .int .i64 E] w fun e w' => e = .returned (.int .i64 E) ∧ JSt w' p s mb L j t (sndE snd E) nx sv xs rs ∧ Off (oj j t sv) w w' := by
  by_cases hE : E = 14
  · subst hE
    obtain ⟨⟨c0, c1, c2, c3⟩, f0, f1, f2, f3⟩ := four h.jr.blk
    refine (told_down w j _ c1 f1).mono ?_
    rintro e w' ⟨rfl, rfl⟩
    refine ⟨rfl, h.set 1 (.bool false) false nx (by decide) (set_four h.jr.blk 1 _ (by simp)) (Nat.le_refl _) h.jr.nxl, Off.of_grown (grownBy_set _ _ _) fun i e => .inl (Option.some.inj e).symm⟩
  · refine (told_ok w j E hE).mono ?_
    rintro e w' ⟨rfl, rfl⟩
    unfold sndE
    rw [if_neg hE]
    exact ⟨rfl, h, Off.refl _ _⟩
set_option maxRecDepth 100000 in
set_option maxHeartbeats 2000000 in
/-- add: bytes behind the file's. -/
theorem add_any (h : JSt w p s mb L j t snd nx sv xs rs) {A : Option Addr} {n c : Nat} {bs : List Int} (hb : BAt w (.slice A n c) bs) (hf : BK (fun k => ¬ Tj p mb L j t sv k) (.slice A n c) bs) (hn : n ≤ 1000000) :
    Calls Tryz.prog 58 #[.pointer (some ⟨j, 0, none⟩), .slice A n c] w fun e w' => e = .returned (.int .i64 (appE s klog n)) ∧ JMv w w' p mb L j t sv t (fun mb' L' sv' => sv = sv' ∧ JSt w' p (appS s klog n) mb' L' j t (sndE snd (appE s klog n)) nx sv xs rs ∧ Sr.Alike (appL s L klog bs) L') := by
  have hl := hb.len.1
  have HA := Lib.hid (Append_any klog h.st hn hl (fun w' ho => bat_step hb ho (fun hp a n c ha hs => hf hp a n c ha (.inl hs))))
  obtain ⟨E, hE⟩ : ∃ E, E = appE s klog n := ⟨_, rfl⟩
  rw [← hE] at HA ⊢
  obtain ⟨⟨c0, c1, c2, c3⟩, _⟩ := four h.jr.blk
  have HJ := Lib.hid h
  clear h hb hf hl hE
  go_enter Tryz.func58, Tryz.ntmps58
  go_wp2_with (first
    | (go_at_call 89; (with_reducible refine HTD.out.mono ?_); rintro e w3 ⟨rfl, hj3, ho3⟩; have HJ3 := Lib.hid hj3; have HO3 := Lib.hid ho3; clear hj3 ho3)
    | (go_at_call 90; (with_reducible refine HA.out.mono ?_); rintro e w2 ⟨rfl, mb', L', mv, al⟩; have HMV := Lib.hid mv; have HAL := Lib.hid al; have HTD := Lib.hid (told_any (HJ.out.store mv) E); clear mv al))
  go_ret
  refine ⟨rfl, mb', L', sv, ⟨rfl, HJ3.out, HAL.out⟩, off_two HMV.out.off HO3.out (fun i hi => .inl hi) (fun i hi => .inl (.inr hi)), fun i hi => ?_⟩
  rcases hi with hi | hi
  · exact (HMV.out.new i hi).imp .inl id
  · exact .inl (.inr hi)
set_option maxRecDepth 100000 in
set_option maxHeartbeats 4000000 in
/-- Append: the record is behind the others. -/
theorem append_ok (h : JSt w p s mb L j t true nx sv xs rs) {A : Option Addr} {n c : Nat} {l : List Int} (hb : BAt w (.slice A n c) l) (hbk : bok l) (hfr : BK (fun k => ¬ Tj p mb L j t sv k) (.slice A n c) l) (hn : n ≤ 1000) (hnx : nx ≤ 4611686018427387903) (hx : xs.length < 900) (hE : appE s klog (recF nx l).length = 0) :
    Calls Tryz.prog 29 #[.pointer (some ⟨j, 0, none⟩), .slice A n c] w fun e w' => e = .returned (.tuple #[.int .i64 (nx : Int), .int .i64 0]) ∧ JMv w w' p mb L j t sv t (fun mb' L' sv' => ∃ xs', JSt w' p (appS s klog (recF nx l).length) mb' L' j t true (nx + 1) sv' xs' (rs ++ [(nx, l)]) ∧ Sr.Alike (appL s L klog (recF nx l)) L' ∧ xs'.length = xs.length + 1) := by
  have HSO := Lib.hid (sound_any h)
  have HSE := Lib.hid (seal_any w nx A n c l hb hbk hn (by omega))
  obtain ⟨⟨c0, c1, c2, c3⟩, _⟩ := four h.jr.blk
  obtain ⟨fl, hfl⟩ : ∃ fl, fl = recF nx l := ⟨_, rfl⟩
  have HFL := Lib.hid hfl
  rw [← hfl] at HSE hE ⊢
  have hflen : fl.length ≤ 1018 := by
    rw [hfl, recF_len]
    have := (Oc.grp_len nx).1
    have := hb.len.1
    omega
  have HFN := Lib.hid hflen
  have HH := Lib.hid (And.intro h (And.intro hb (And.intro hfr (And.intro hx hE))))
  have hz : ¬ ((4611686018427387903 : Int) < (nx : Int)) := by omega
  clear h hb hbk hfr hx hE hfl hflen
  go_enter Tryz.func29, Tryz.ntmps29
  go_wp2_with (first
    | (go_at_call 51; (with_reducible refine HPU.out.mono ?_); rintro e w5 ⟨rfl, hp5⟩; have HP5 := Lib.hid hp5; clear hp5)
    | (go_at_call 38; (with_reducible refine HCL.out.mono ?_); rintro e w4 ⟨A4, c4, rfl, ⟨hb4, hk4⟩, hbl4⟩
       have HB4 := Lib.hid hbl4
       obtain ⟨hj3, hlow⟩ := HJ3.out
       have hj4 := hj3.below hbl4
       have HPU := Lib.hid (jput_any (n := nx) hj4 (fun x hx => hj4.jr.lt x hx) (by omega) hnx (by have := HH.out.2.2.2.1; omega) hb4 (fun hp a n c ha ht => by
         have h1 : w3.heap.size ≤ a.block := hk4 hp a n c ha
         have h2 := hj3.tj_lt ht
         omega))
       clear hb4 hk4 hbl4 hj3 hlow hj4)
    | (go_at_call 58; (with_reducible refine HAD.out.mono ?_); rintro e w3 ⟨rfl, mb', L', sv', ⟨rfl, hj3, hal3⟩, ho3, hn3⟩
       have hbase := HB2.out.size
       have HCL := Lib.hid (clone_atK w3 A n c l (bat_step (HH.out.2.1.kept HB2.out) ho3 (fun hp a n c ha hs => HH.out.2.2.1 hp a n c ha hs)) (by omega))
       have hj3' : JSt w3 p (appS s klog fl.length) mb' L' j t true nx sv xs rs := hj3
       have HJ3 := Lib.hid (And.intro hj3' (And.intro hal3 (And.intro ho3 hn3)))
       clear hj3 hal3 ho3 hn3 hbase hj3')
    | (go_at_call 57; (with_reducible refine HSE.out.mono ?_); rintro e w2 ⟨A2, q2, c2', rfl, hq2, ⟨hb2, hk2⟩, hbl2⟩
       subst hq2
       have HB2 := Lib.hid hbl2
       have hj2 := HH.out.1.below hbl2
       have had := add_any hj2 hb2 (fun hp a n c ha ht => by
         have h1 : w.heap.size ≤ a.block := hk2 hp a n c ha
         have h2 := HH.out.1.tj_lt ht
         omega) (by have := HFN.out; omega)
       rw [HH.out.2.2.2.2] at had
       have HAD := Lib.hid had
       clear hb2 hk2 hbl2 hj2 had)
    | (go_at_call 56; (with_reducible refine HSO.out.mono ?_); rintro e w' ⟨rfl, rfl⟩))
  go_ret2
  obtain ⟨sv', hq, ho5, hn5⟩ := HP5.out
  obtain ⟨_, hal, ho3, hn3⟩ := HJ3.out
  refine ⟨rfl, JMv.below HB2.out (JMv.trans ho3 hn3 (JMv.below HB4.out ⟨mb', L', sv', ⟨_, hq, hal, by simp⟩, off_two ho5 (Off.refl (fun _ => False) _) (fun i hi => .inr hi) (fun _ h => h.elim), fun i hi => ?_⟩))⟩
  rcases hi with hi | hi
  · exact .inl (.inl hi)
  · exact (hn5 i hi).imp .inr id
set_option maxRecDepth 100000 in
set_option maxHeartbeats 4000000 in
/-- Append: an error of the store's. -/
theorem append_bad (h : JSt w p s mb L j t true nx sv xs rs) {A : Option Addr} {n c : Nat} {l : List Int} (hb : BAt w (.slice A n c) l) (hbk : bok l) (hn : n ≤ 1000) (hnx : nx ≤ 4611686018427387903) (hE : ¬ appE s klog (recF nx l).length = 0) :
    Calls Tryz.prog 29 #[.pointer (some ⟨j, 0, none⟩), .slice A n c] w fun e w' => e = .returned (.tuple #[.int .i64 0, .int .i64 (appE s klog (recF nx l).length)]) ∧ JMv w w' p mb L j t sv t (fun mb' L' sv' => JSt w' p (appS s klog (recF nx l).length) mb' L' j t (sndE true (appE s klog (recF nx l).length)) nx sv' xs rs ∧ Sr.Alike (appL s L klog (recF nx l)) L') := by
  have HSO := Lib.hid (sound_any h)
  have HSE := Lib.hid (seal_any w nx A n c l hb hbk hn (by omega))
  obtain ⟨⟨c0, c1, c2, c3⟩, _⟩ := four h.jr.blk
  obtain ⟨fl, hfl⟩ : ∃ fl, fl = recF nx l := ⟨_, rfl⟩
  rw [← hfl] at HSE hE ⊢
  have hflen : fl.length ≤ 1018 := by
    rw [hfl, recF_len]
    have := (Oc.grp_len nx).1
    have := hb.len.1
    omega
  obtain ⟨E, hEE⟩ : ∃ E, E = appE s klog fl.length := ⟨_, rfl⟩
  rw [← hEE] at hE ⊢
  have hEb : (E != 0) = true := by simpa using hE
  have HFN := Lib.hid hflen
  have HEE := Lib.hid hEE
  have HH := Lib.hid (And.intro h hb)
  have hz : ¬ ((4611686018427387903 : Int) < (nx : Int)) := by omega
  clear h hb hbk hfl hflen hEE
  go_enter Tryz.func29, Tryz.ntmps29
  go_wp2_with (first
    | (go_at_call 58; (with_reducible refine HAD.out.mono ?_); rintro e w3 ⟨rfl, mb', L', sv', ⟨rfl, hj3, hal3⟩, ho3, hn3⟩
       have HJ3 := Lib.hid (And.intro hj3 (And.intro hal3 (And.intro ho3 hn3)))
       clear hj3 hal3 ho3 hn3)
    | (go_at_call 57; (with_reducible refine HSE.out.mono ?_); rintro e w2 ⟨A2, q2, c2', rfl, hq2, ⟨hb2, hk2⟩, hbl2⟩
       subst hq2
       have HB2 := Lib.hid hbl2
       have hj2 := HH.out.1.below hbl2
       have had := add_any hj2 hb2 (fun hp a n c ha ht => by
         have h1 : w.heap.size ≤ a.block := hk2 hp a n c ha
         have h2 := HH.out.1.tj_lt ht
         omega) (by have := HFN.out; omega)
       rw [← HEE.out] at had
       have HAD := Lib.hid had
       clear hb2 hk2 hbl2 hj2 had)
    | (go_at_call 56; (with_reducible refine HSO.out.mono ?_); rintro e w' ⟨rfl, rfl⟩))
  go_ret2
  obtain ⟨hj, hal, ho3, hn3⟩ := HJ3.out
  exact ⟨rfl, JMv.below HB2.out ⟨mb', L', sv, ⟨hj, hal⟩, ho3, hn3⟩⟩
end
end Go.Proofs.YtjijgoflbjbnfaaGreat.Jo

namespace Go.Proofs.YtjijgoflbjbnfaaGreat.Tb.Ib
open Go.RowKit Go.Shelf
attribute [local go_sem] Oper.semAt_some

theorem yield_any {m : Nat} (m' : Nat) {P : Program} {l : Nat} {args : Array Value} {W : World} {Q : Ending → World → Prop} (h : YieldAt Fence.wide m P l args W Q) : YieldAt Fence.wide m' P l args W Q := by
  obtain ⟨fn, tmps, assign, body, hy, h1, h2⟩ := h
  exact ⟨fn, tmps, assign, body, hy, h1, fun c cs _ => h2 c cs (fun d h => by cases h)⟩
theorem abides_alloc {β : Type} {B : Nat} {J : β → World → Prop} (h : AbidesFrom B J) {s : β} {W : World} (hs : J s W) (o : Obj) : J s (W.alloc o) :=
  h s W (W.alloc o) none hs ⟨rfl, rfl, rfl, by simp, fun k hk _ => Below.heap_alloc _ _ _ hk⟩ (fun r e => by cases e)

set_option maxRecDepth 100000 in
set_option maxHeartbeats 2000000 in
theorem give_in (n m l B : Nat) (hn1 : 1 ≤ n) (wT : World) (v : Value) (rs : List R) (hr : RowsR wT v rs) (hn : rs.length ≤ 1000) (J Jx : List R → World → Prop) (hJ : AbidesFrom B J)
    (hY : ∀ pre x W, J pre W → pre.length < rs.length → YieldAt Fence.wide m Tryz.prog l #[Value.int .i64 x.1, (Value.slice x.2.A x.2.n x.2.c)] W fun e W' =>
      (e = .returned (.bool true) ∧ J (pre ++ [x]) W' ∧ Below wT.heap.size W W') ∨ (e = .returned (.bool false) ∧ Jx (pre ++ [x]) W'))
    (W : World) (hW : Below wT.heap.size wT W) (h0 : J [] W) :
    CallsIn Fence.wide n Tryz.prog 95 #[v, .func (.yield l) #[] #[]] W fun e W' => (∃ v, e = .returned v) ∧ ((∃ ys, ys = rs ∧ J ys W') ∨ (∃ pre, pre <+: rs ∧ Jx pre W')) := by
  obtain ⟨A, cap, rfl, _, _, h3⟩ := hr
  have H3 := Lib.hid h3
  have HY := Lib.hid hY
  clear h3 hY
  refine callsIn_of_wp Tryz.func95 rfl trivial ?_ rfl
  simp only [Tryz.ntmps95, List.size_toArray, List.length_cons, List.length_nil, Nat.reduceAdd, Nat.reduceSub, Array.replicate_succ, Array.replicate_zero, List.push_toArray, List.append_toArray, List.nil_append, List.cons_append]
  gi_wp2
  gi_loopw [8] (fun i wr => ∃ k : Nat, k ≤ rs.length ∧ i = .int .i64 (k : Int) ∧ Hid (J (rs.take k) wr ∧ Below wT.heap.size wT wr))
    (fun i _ => rs.length - (intOf i).toNat)
  case atStart => exact ⟨0, Nat.zero_le _, rfl, h0, hW⟩
  case round =>
    obtain ⟨k, hk, rfl, hinv⟩ := hrel
    by_cases hlt : k < rs.length
    · obtain ⟨r, hr⟩ : ∃ r, rs[k]? = some r := ⟨_, List.getElem?_eq_getElem hlt⟩
      rcases H3.out with ⟨rfl, rfl⟩ | ⟨g, o, rfl, hg, hcell⟩
      · simp at hr
      have hc := hcell k r hr
      have c1 : wr.cell? ⟨g, o + k * 2, none⟩ = some (Value.int .i64 r.1) := (hinv.out.2.cell (p := ⟨g, o + k * 2, none⟩) hg).trans hc.1
      have c2 : wr.cell? ⟨g, o + k * 2 + 1, none⟩ = some ((Value.slice r.2.A r.2.n r.2.c)) := (hinv.out.2.cell (p := ⟨g, o + k * 2 + 1, none⟩) hg).trans hc.2
      have hts : Hid (rs.take (k + 1) = rs.take k ++ [r]) := by
        show _ = _
        rw [List.take_succ_eq_append_getElem hlt]
        rw [List.getElem?_eq_getElem hlt] at hr
        rw [Option.some.inj hr]
      obtain ⟨fn, tmps, assign, body, hy, hR⟩ := yield_any (n - 1) (HY.out (rs.take k) r (wr.alloc (.cells #[Value.int .i64 r.1, (Value.slice r.2.A r.2.n r.2.c)] 100)) (abides_alloc hJ hinv.out.1 _) (by rw [List.length_take]; omega))
      have HB : Hid (Below wT.heap.size wT (wr.alloc (.cells #[Value.int .i64 r.1, (Value.slice r.2.A r.2.n r.2.c)] 100))) := hinv.out.2.alloc (by have := hinv.out.2.size; omega) _
      clear hc hcell hr
      gi_wp2
      refine hR.mono ?_
      rintro e W3 (⟨rfl, hJ3, hk3⟩ | ⟨rfl, hJx3⟩)
      · have HJ3 := Lib.hid hJ3
        have HK3 := Lib.hid hk3
        clear hJ3 hk3 hy hR
        gi_wp2
        go_roundw
        case rel => exact ⟨k + 1, by omega, by go_num, by rw [hts.out]; exact HJ3.out, HB.out.trans HK3.out⟩
        case measure => simp [intOf]; omega
      · have HJ3 := Lib.hid hJx3
        clear hJx3 hy hR
        gi_wp2
        refine bodyPost_ret (results_none rfl _ _ _) rfl ?_
        exact ⟨⟨_, rfl⟩, .inr ⟨_, by rw [← hts.out]; exact List.take_prefix _ _, HJ3.out⟩⟩
    · obtain rfl : k = rs.length := by omega
      gi_wp2
      go_end0
      exact ⟨⟨_, rfl⟩, .inl ⟨_, List.take_of_length_le (Nat.le_refl _), hinv.out.1⟩⟩

set_option maxHeartbeats 1000000 in
theorem from_any (p : Option Addr) (k : K) (w : World) :
    Calls Tryz.prog 60 #[.pointer p, Value.int .i64 k] w fun e w' => e = .returned (.func (.func 93) #[] #[.pointer (some ⟨w.heap.size, 0, none⟩), .pointer (some ⟨w.heap.size + 1, 0, none⟩)]) ∧ w' = (w.alloc (.cells #[.pointer p] 92)).alloc (.cells #[Value.int .i64 k] 3) := by
  go_enter Tryz.func60, Tryz.ntmps60
  go_wp2
  go_ret
  exact ⟨by simp, rfl⟩
end Go.Proofs.YtjijgoflbjbnfaaGreat.Tb.Ib

namespace Go.Proofs.YtjijgoflbjbnfaaGreat.Tb.Ib
open Go.RowKit Go.Shelf
attribute [local go_sem] Oper.semAt_some

theorem slice_some (g o n cap a : Nat) (h : a ≤ n) (hc : n ≤ cap) (W : World) : (Instr.slice 109 (.slice (some ⟨g, o, none⟩) n cap) (some (.int .i64 (a : Int))) none none).run Tryz.prog W = .ok (.slice (some ⟨g, if cap = a then o else o + a * 2, none⟩) (n - a) (cap - a)) W := by
  have h2 : (a : Int) ≤ (n : Int) := by omega
  have h3 : (n : Int) ≤ (cap : Int) := by omega
  by_cases hcc : cap = a
  · subst hcc
    simp [Instr.slice, Instr.sliceBounds, Instr.sliceBound, asIntOf, run_underlying Tryz.underlying109, h, hc]
  · simp [Instr.slice, Instr.sliceBounds, Instr.sliceBound, asIntOf, run_underlying Tryz.underlying109, h, hcc]
    unfold Addr.add
    split <;> simp_all
theorem slice_none (W : World) : (Instr.slice 109 (.slice none 0 0) (some (.int .i64 0)) none none).run Tryz.prog W = .ok (.slice none 0 0) W := by
  simp [Instr.slice, Instr.sliceBounds, Instr.sliceBound, asIntOf, run_underlying Tryz.underlying109]
/-- The rows from a place on. -/
theorem rows_from (w : World) (v : Value) (l : List R) (a : Nat) (h : RowsR w v l) (ha : a ≤ l.length) : ∃ v', RowsR w v' (l.drop a) ∧ ∀ W, (Instr.slice 109 v (some (.int .i64 (a : Int))) none none).run Tryz.prog W = .ok v' W := by
  obtain ⟨A, cap, rfl, hc, hA, h3⟩ := h
  rcases h3 with ⟨rfl, rfl⟩ | ⟨g, o, rfl, hg, hcell⟩
  · simp at ha
    subst ha
    obtain rfl := hA rfl
    exact ⟨_, RowsR.nil w, fun W => slice_none W⟩
  · refine ⟨_, ⟨some ⟨g, if cap = a then o else o + a * 2, none⟩, cap - a, by rw [List.length_drop], by rw [List.length_drop]; omega, fun e => (by cases e), .inr ⟨g, _, rfl, hg, fun i r hi => ?_⟩⟩, fun W => slice_some g o l.length cap a ha hc W⟩
    rw [List.getElem?_drop] at hi
    have hlt := (List.getElem?_eq_some_iff.1 hi).1
    rw [if_neg (by omega)]
    have := hcell _ _ hi
    rw [show o + a * 2 + i * 2 = o + (a + i) * 2 by omega]
    exact this

set_option maxRecDepth 100000 in
set_option maxHeartbeats 2000000 in
theorem from1_in (n m l B Bs : Nat) (hn1 : 3 ≤ n) (wT : World) (p : Option Addr) (k : K) (rs : List R) (hr : TabR wT p rs) (ha : asc rs) (hn : rs.length ≤ 1000) (J Jx : List R → World → Prop) (hJ : AbidesFrom B J)
    (hY : ∀ pre x W, J pre W → pre.length < (fromL rs k).length → YieldAt Fence.wide m Tryz.prog l #[Value.int .i64 x.1, (Value.slice x.2.A x.2.n x.2.c)] W fun e W' =>
      (e = .returned (.bool true) ∧ J (pre ++ [x]) W' ∧ Below wT.heap.size W W') ∨ (e = .returned (.bool false) ∧ Jx (pre ++ [x]) W'))
    (W : World) (hW : Below wT.heap.size wT W) (hBs : W.heap[Bs]? = some (.cells #[.pointer p] 92 (0, 0))) (hBk : W.heap[Bs + 1]? = some (.cells #[Value.int .i64 k] 3 (0, 0))) (h0 : J [] W) :
    CallsIn Fence.wide n Tryz.prog 93 #[.func (.yield l) #[] #[], .pointer (some ⟨Bs, 0, none⟩), .pointer (some ⟨Bs + 1, 0, none⟩)] W fun e W' => (∃ v, e = .returned v) ∧ ((∃ ys, ys = fromL rs k ∧ J ys W') ∨ (∃ pre, pre <+: fromL rs k ∧ Jx pre W')) := by
  have hb1 := (block_cell hBs).1
  have hb2 := (block_cell hBk).1
  have hf := Lib.hid (callsIn_wide (n := n - 1).2 (find_any W p rs k (hr.below hW) ha hn))
  obtain ⟨v, hv, hal⟩ := all_any wT p rs hr
  obtain ⟨v', hv', hsl⟩ := rows_from wT v rs (pl rs k) hv (pl_le rs k)
  have hlen : (rs.drop (pl rs k)).length ≤ 1000 := by rw [List.length_drop]; omega
  have HY := Lib.hid hY
  have HAL := Lib.hid hal
  have HV := Lib.hid hv'
  have HBs := Lib.hid hBs
  have HBk := Lib.hid hBk
  have H0 := Lib.hid h0
  have hn2 : 1 ≤ n := by omega
  clear hY hal hv' hr ha hBs hBk h0
  refine callsIn_of_wp Tryz.func93 rfl trivial ?_ rfl
  simp only [Tryz.ntmps93, List.size_toArray, List.length_cons, List.length_nil, Nat.reduceAdd, Nat.reduceSub, Array.replicate_succ, Array.replicate_zero, List.push_toArray, List.append_toArray, List.nil_append, List.cons_append]
  gi_wp2_with (first
    | (refine ⟨trivial, ?_⟩; gi_at_call 94; refine hf.out.mono ?_; rintro e w1 ⟨rfl, hb⟩; have c1 := (block_cell (block_kept HBs.out hb)).1; have HB : Hid _ := hb; clear hb)
    | (refine ⟨trivial, ?_⟩; gi_at_call 96; refine (callsIn_wide.2 (HAL.out _ (hW.trans (HB.out.mono hW.size)))).mono ?_; rintro e w2 ⟨rfl, rfl⟩)
    | (refine ⟨trivial, ?_⟩; gi_at_call 95; refine (give_in (n - 1) m l B (by omega) wT v' _ HV.out hlen J Jx hJ HY.out w1 (hW.trans (HB.out.mono hW.size)) (hJ [] W w1 none H0.out ⟨HB.out.os, HB.out.tape, HB.out.output, HB.out.size, fun k hk _ => HB.out.block k hk⟩ (fun r e => by cases e))).mono ?_; rintro e w' ⟨⟨v'', rfl⟩, hpost⟩))
  have HP := Lib.hid hpost
  clear hpost
  go_end0
  exact ⟨⟨_, rfl⟩, HP.out⟩
theorem from_stops (n : Nat) (hn1 : 3 ≤ n) (Bs : Nat) (wT : World) (p : Option Addr) (k : K) (rs : List R) (hr : TabR wT p rs) (ha : asc rs) (hn : rs.length ≤ 1000) (w : World) (hw : Below wT.heap.size wT w) (hBs : w.heap[Bs]? = some (.cells #[.pointer p] 92 (0, 0))) (hBk : w.heap[Bs + 1]? = some (.cells #[Value.int .i64 k] 3 (0, 0))) :
    SeqStopsK Fence.wide n Tryz.prog 93 #[.pointer (some ⟨Bs, 0, none⟩), .pointer (some ⟨Bs + 1, 0, none⟩)] (fun x : R => #[Value.int .i64 x.1, (Value.slice x.2.A x.2.n x.2.c)]) (Below wT.heap.size) (fun ys => ys = fromL rs k) (fun pre => pre <+: fromL rs k) (fromL rs k).length w :=
  fun l J Jx W hW hJ _ hY h0 => from1_in n (n - 1) l W.heap.size Bs hn1 wT p k rs hr ha hn J Jx hJ hY W (hw.trans (hW.mono hw.size)) (block_kept hBs hW) (block_kept hBk hW) h0
end Go.Proofs.YtjijgoflbjbnfaaGreat.Tb.Ib

namespace Go.Proofs.YtjijgoflbjbnfaaGreat.Jo
open Go.RowKit Go.Shelf Fr Sr
attribute [local go_sem] Oper.semAt_some
variable {β : Type}

abbrev tkey (x : Xr) : Int := x.1
abbrev tR (_ : Nat → Prop) (x : Xr) (v : Value) (_ : World) : Prop := v = bval x.2
theorem ks_cell {w w' : World} (h : KS (fun _ => True) w w') {g i : Nat} (hg : g < w.heap.size) : w'.cell? ⟨g, i, none⟩ = w.cell? ⟨g, i, none⟩ := by
  simp only [World.cell?]; rw [h.2 g trivial hg]
abbrev Lo (N : Nat) (K : Nat → Prop) : Prop := ∀ k, k < N → K k
set_option maxRecDepth 100000 in
set_option maxHeartbeats 2000000 in
theorem give_g (n m l : Nat) (hn1 : 1 ≤ n) (wT : World) (v : Value) (rs : List Xr) (hr : Tb.Ib.RowsR wT v rs) (hn : rs.length ≤ 1000) (seen : β → List Xr) (K : β → Nat → Prop) (J Jx : β → World → Prop) (B : Nat) (hJ : OwnFrom B J)
    (hY : ∀ s x W1, J s W1 → (∃ r, rs = seen s ++ x :: r) → YieldAt Fence.wide m Tryz.prog l #[.int .i64 x.1, bval x.2] W1 fun e W' =>
      (e = .returned (.bool true) ∧ KS (K s) W1 W' ∧ ∃ s', seen s' = seen s ++ [x] ∧ J s' W' ∧ Goes (K s) (K s') W1) ∨ (e = .returned (.bool false) ∧ KS (fun k => K s k ∧ B ≤ k) W1 W' ∧ ∃ s', seen s' = seen s ++ [x] ∧ Jx s' W'))
    (W : World) (hW : KS (fun _ => True) wT W) (s0 : β) (hs0 : seen s0 = []) (h0 : J s0 W) (hC : Lo wT.heap.size (K s0)) :
    CallsIn Fence.wide n Tryz.prog 95 #[v, .func (.yield l) #[] #[]] W fun e W' => (∃ v, e = .returned v) ∧ ((∃ s, seen s = rs ∧ J s W') ∨ (∃ s, (∃ r, rs = seen s ++ r) ∧ Jx s W')) := by
  obtain ⟨A, cap, rfl, _, _, h3⟩ := hr
  have H3 := Lib.hid h3
  have HY := Lib.hid hY
  have HJ := Lib.hid hJ
  have H0 : Hid (seen s0 = rs.take 0 ∧ J s0 W ∧ KS (fun _ => True) wT W ∧ Lo wT.heap.size (K s0)) := ⟨by rw [hs0]; rfl, h0, hW, hC⟩
  clear h3 hY hJ h0 hW hC hs0
  refine callsIn_of_wp Tryz.func95 rfl trivial ?_ rfl
  simp only [Tryz.ntmps95, List.size_toArray, List.length_cons, List.length_nil, Nat.reduceAdd, Nat.reduceSub, Array.replicate_succ, Array.replicate_zero, List.push_toArray, List.append_toArray, List.nil_append, List.cons_append]
  gi_wp2
  gi_loopw [8] (fun i wr => ∃ (k : Nat) (s : β), k ≤ rs.length ∧ i = .int .i64 (k : Int) ∧ Hid (seen s = rs.take k ∧ J s wr ∧ KS (fun _ => True) wT wr ∧ Lo wT.heap.size (K s)))
    (fun i _ => rs.length - (intOf i).toNat)
  case atStart => exact ⟨0, s0, Nat.zero_le _, rfl, H0.out⟩
  case round =>
    obtain ⟨k, s, hk, rfl, hinv⟩ := hrel
    by_cases hlt : k < rs.length
    · obtain ⟨r, hr⟩ : ∃ r, rs[k]? = some r := ⟨_, List.getElem?_eq_getElem hlt⟩
      rcases H3.out with ⟨rfl, rfl⟩ | ⟨g, o, rfl, hg, hcell⟩
      · simp at hr
      have hc := hcell k r hr
      have c1 : wr.cell? ⟨g, o + k * 2, none⟩ = some (Value.int .i64 r.1) := (ks_cell hinv.out.2.2.1 hg).trans hc.1
      have c2 : wr.cell? ⟨g, o + k * 2 + 1, none⟩ = some (Value.slice r.2.A r.2.n r.2.c) := (ks_cell hinv.out.2.2.1 hg).trans hc.2
      have hgr : rs[k] = r := by rw [List.getElem?_eq_getElem hlt] at hr; exact Option.some.inj hr
      have hts : Hid (rs.take (k + 1) = rs.take k ++ [r]) := by
        show _ = _
        rw [List.take_succ_eq_append_getElem hlt, hgr]
      have hfit : ∃ r', rs = seen s ++ r :: r' := ⟨rs.drop (k + 1), by rw [hinv.out.1, ← hgr, ← List.drop_eq_getElem_cons hlt, List.take_append_drop]⟩
      have hal := alloc_below wr (.cells #[Value.int .i64 r.1, (Value.slice r.2.A r.2.n r.2.c)] 100)
      obtain ⟨fn, tmps, assign, body, hy, hR⟩ := yield_any (n - 1) (HY.out s r (wr.alloc (.cells #[Value.int .i64 r.1, (Value.slice r.2.A r.2.n r.2.c)] 100)) (own_below HJ.out hinv.out.2.1 hal) hfit)
      unfold bval at hy
      have HB : Hid (KS (fun _ => True) wT (wr.alloc (.cells #[Value.int .i64 r.1, (Value.slice r.2.A r.2.n r.2.c)] 100))) := hinv.out.2.2.1.trans (KS.of_below hal)
      clear hc hcell hr hgr hfit hal
      gi_wp2
      refine hR.mono ?_
      rintro e W3 (⟨rfl, hk3, s', hs', hJ3, hgo⟩ | ⟨rfl, _, s', hs', hJx3⟩)
      · have HJ3 : Hid (seen s' = rs.take (k + 1) ∧ J s' W3 ∧ KS (fun _ => True) wT W3 ∧ Lo wT.heap.size (K s')) := by
          refine ⟨by rw [hts.out, hs', hinv.out.1], hJ3, ?_, fun i hi => hgo i (hinv.out.2.2.2 i hi) (Nat.lt_of_lt_of_le hi HB.out.1)⟩
          exact ⟨Nat.le_trans HB.out.1 hk3.1, fun i _ hi => (hk3.2 i (hinv.out.2.2.2 i hi) (Nat.lt_of_lt_of_le hi HB.out.1)).trans (HB.out.2 i trivial hi)⟩
        clear hJ3 hk3 hy hR hgo hs'
        gi_wp2
        go_roundw
        case rel => exact ⟨k + 1, s', by omega, by go_num, HJ3.out⟩
        case measure => simp [intOf]; omega
      · have HJ3 := Lib.hid hJx3
        have HS := Lib.hid hs'
        clear hJx3 hy hR hs'
        gi_wp2
        refine bodyPost_ret (results_none rfl _ _ _) rfl ?_
        exact ⟨⟨_, rfl⟩, .inr ⟨s', ⟨rs.drop (k + 1), by rw [HS.out, hinv.out.1, ← hts.out, List.take_append_drop]⟩, HJ3.out⟩⟩
    · obtain rfl : k = rs.length := by omega
      gi_wp2
      go_end0
      exact ⟨⟨_, rfl⟩, .inl ⟨s, by rw [hinv.out.1, List.take_of_length_le (Nat.le_refl _)], hinv.out.2.1⟩⟩
set_option maxRecDepth 100000 in
set_option maxHeartbeats 2000000 in
theorem from1_g (n : Nat) (hn1 : 4 ≤ n) (seen : β → List Xr) (K : β → Nat → Prop) (Bs : Nat) (wT w : World) (p : Option Addr) (k : Int) (rs : List Xr) (hr : Tb.Ib.TabR wT p rs) (ha : Tb.asc rs) (hn : rs.length ≤ 1000) (hw : Below wT.heap.size wT w) (hBs : w.heap[Bs]? = some (.cells #[.pointer p] 92 (0, 0))) (hBk : w.heap[Bs + 1]? = some (.cells #[.int .i64 k] 3 (0, 0))) :
    GSeq seen K (Lo wT.heap.size) (fun _ _ => True) tkey tR Fence.wide n Tryz.prog 93 #[.pointer (some ⟨Bs, 0, none⟩), .pointer (some ⟨Bs + 1, 0, none⟩)] (Tb.fromL rs k) w := by
  intro l J Jx W hW hJ hJx hJK _ hY s0 hs0 h0 hC
  have hb1 := (block_cell (block_kept hBs hW)).1
  have hb2 := (block_cell (block_kept hBk hW)).1
  have hTW : Below wT.heap.size wT W := hw.trans (hW.mono hw.size)
  have hf := Lib.hid (callsIn_wide (n := n - 1).2 (Tb.Ib.find_any W p rs k (hr.below hTW) ha hn))
  obtain ⟨v, hv, hal⟩ := Tb.Ib.all_any wT p rs hr
  obtain ⟨v', hv', hsl⟩ := Tb.Ib.rows_from wT v rs (Tb.pl rs k) hv (Tb.pl_le rs k)
  have hlen : (rs.drop (Tb.pl rs k)).length ≤ 1000 := by rw [List.length_drop]; omega
  have HY := Lib.hid hY
  have HAL := Lib.hid hal
  have HV := Lib.hid hv'
  have HBs := Lib.hid (block_kept hBs hW)
  have H0 := Lib.hid (And.intro hs0 (And.intro h0 hC))
  have HJ := Lib.hid hJ
  have HTW := Lib.hid hTW
  have hn2 : 1 ≤ n := by omega
  clear hY hal hv' hr ha hBs hBk h0 hC hs0 hJ hJx hJK hTW hW hw
  refine callsIn_of_wp Tryz.func93 rfl trivial ?_ rfl
  simp only [Tryz.ntmps93, List.size_toArray, List.length_cons, List.length_nil, Nat.reduceAdd, Nat.reduceSub, Array.replicate_succ, Array.replicate_zero, List.push_toArray, List.append_toArray, List.nil_append, List.cons_append]
  gi_wp2_with (first
    | (refine ⟨trivial, ?_⟩; gi_at_call 94; refine hf.out.mono ?_; rintro e w1 ⟨rfl, hb⟩; have c1 := (block_cell (block_kept HBs.out hb)).1; have HB : Hid _ := hb; clear hb)
    | (refine ⟨trivial, ?_⟩; gi_at_call 96; refine (callsIn_wide.2 (HAL.out _ (HTW.out.trans (HB.out.mono HTW.out.size)))).mono ?_; rintro e w2 ⟨rfl, rfl⟩)
    | (refine ⟨trivial, ?_⟩; gi_at_call 95; refine (give_g (n - 1) (n - 1) l (by omega) wT v' _ HV.out hlen seen K J Jx W.heap.size HJ.out (fun s x W1 hs hf => HY.out s x _ W1 hs rfl hf) w1 (KS.of_below (HTW.out.trans (HB.out.mono HTW.out.size))) s0 H0.out.1 (own_below HJ.out H0.out.2.1 HB.out) H0.out.2.2).mono ?_; rintro e w' ⟨⟨v'', rfl⟩, hpost⟩))
  have HP := Lib.hid hpost
  clear hpost
  go_end0
  exact ⟨⟨_, rfl⟩, HP.out⟩
end Go.Proofs.YtjijgoflbjbnfaaGreat.Jo
