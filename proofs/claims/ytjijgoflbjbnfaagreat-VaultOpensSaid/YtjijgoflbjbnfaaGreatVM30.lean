/-
  The contract of All. Conditions: at most nine hundred records.
-/
import Derived.Test.YtjijgoflbjbnfaaGreatVM29
import Derived.Test.YtjijgoflbjbnfaaGreatVM23
import Derived.Test.YtjijgoflbjbnfaaGreatVM28
import Derived.Test.YtjijgoflbjbnfaaGreatVM27
namespace Go.Proofs.YtjijgoflbjbnfaaGreat.Vt
open Go.RowKit Go.Shelf Fr Sr Jo Sp
attribute [local go_sem] Oper.semAt_some

set_option maxRecDepth 100000 in
theorem veach_any (w : World) (b : Nat) : Calls Tryz.prog 37 #[.pointer (some ⟨b, 0, none⟩)] w fun e w' => e = .returned (.func (.func 62) #[] #[.pointer (some ⟨w.heap.size, 0, none⟩)]) ∧ w' = w.alloc (.cells #[.pointer (some ⟨b, 0, none⟩)] 28) := by
  go_enter Tryz.func37, Tryz.ntmps37
  go_wp2
  go_ret
  exact ⟨rfl, rfl⟩
/-- While records are told. -/
structure RIa (w : World) (lb : Nat) (s : List (List Int) × Value) (W : World) : Prop where
  box : Boxed W lb 31 s.2
  row : RowsO W (lb + 1) (fun k => k = lb ∨ s.2.ownBlock = some k) s.2 s.1
  bel : Below w.heap.size w W
def RKa (lb : Nat) (s : List (List Int) × Value) (k : Nat) : Prop := k ≠ lb ∧ s.2.ownBlock ≠ some k
theorem RIa.from {w : World} {lb N : Nat} (hN : w.heap.size ≤ N) : OwnFrom N (RIa w lb) := fun s X Y row h hg hr => by
  have ho : Off (fun i => row = some i) X Y := Off.of_grown (T := fun i => row = some i) hg fun i e => e
  have h3 : ∀ i, row = some i → ∀ o, X.heap[i]? = some o → o.isCells = false := fun i hi o ho2 => by
    obtain ⟨h1, o2, h2, h3⟩ := hr i hi
    rw [h2] at ho2; cases ho2; exact h3
  have hne : ∀ {i : Nat}, row = some i → ∀ {cs : Array Value} {ty : TypeId} {fr : Nat × Nat} {b : Nat}, X.heap[b]? = some (.cells cs ty fr) → i ≠ b := fun hi _ _ _ _ hb e => by
    subst e
    have := h3 _ hi _ hb
    cases this
  refine ⟨(ho.2 lb h.box.lt (fun e => hne e h.box rfl)).trans h.box, h.row.turn ho (fun i hi e => ?_) h3, h.bel.trans ⟨hg.os, hg.tape, hg.output, hg.size, fun i hi => ho.2 i (Nat.lt_of_lt_of_le hi h.bel.size) (fun e => by have := (hr i e).1; omega)⟩⟩
  obtain ⟨us, ⟨_, h1 | ⟨g, cap, cur, h4, _, h5, _⟩⟩, _⟩ := h.row
  · rw [h1.1] at hi; cases hi
  · rw [h4] at hi; cases hi
    exact hne e h5 rfl
/-- A round: one more slice. -/
theorem all_step {w W : World} {lb N : Nat} {pre : List (List Int)} {v : Value} {A6 : Option Addr} {m c6 : Nat} {b : List Int} (hlb : w.heap.size ≤ lb) (h : RIa w lb (pre, v) W) (hN : pre.length ≤ 30000) (hb : lb < N) (ho : eR N (RKa lb (pre, v)) b (.slice A6 m c6) W) :
    ∃ A5 n5 c5 w5, (Builtin.append_ #[31, 31] 31 #[v, .slice (some ⟨W.heap.size, 0, none⟩) 1 1]).run Tryz.prog (W.alloc (.cells #[.slice A6 m c6] 32)) = .ok (.slice A5 n5 c5) w5 ∧ Boxed w5 lb 31 v ∧
      KS (RKa lb (pre, v)) W (w5.setCell ⟨lb, 0, none⟩ (.slice A5 n5 c5)) ∧ ∃ s' : List (List Int) × Value, s'.1 = pre ++ [b] ∧ RIa w lb s' (w5.setCell ⟨lb, 0, none⟩ (.slice A5 n5 c5)) ∧ Goes (RKa lb (pre, v)) (RKa lb s') W := by
  have hbx : Boxed W lb 31 v := h.box
  have hlW : lb < W.heap.size := hbx.lt
  obtain ⟨us, h1, h2⟩ := h.row
  have h1' : W.ownsRow (lb + 1) 32 1 v pre.length us := h1
  have hvb : ∀ i, v.ownBlock = some i → lb + 1 ≤ i ∧ i < W.heap.size := fun i hi => h1'.lt i hi
  obtain ⟨w3, hw3⟩ : ∃ w3, w3 = W := ⟨_, rfl⟩
  have hbW : Below W.heap.size W w3 := by rw [hw3]; exact Below.refl _ _
  have hz0 : w3.heap.size = W.heap.size := by rw [hw3]
  have hW : (Builtin.append_ #[31, 31] 31 #[v, .slice (some ⟨W.heap.size, 0, none⟩) 1 1]).run Tryz.prog (W.alloc (.cells #[.slice A6 m c6] 32)) = (Builtin.append_ #[31, 31] 31 #[v, .slice (some ⟨w3.heap.size, 0, none⟩) 1 1]).run Tryz.prog (w3.alloc (.cells #[.slice A6 m c6] 32)) := by rw [hw3]
  rw [hW]
  clear hW
  have hal := alloc_below w3 (.cells #[.slice A6 m c6] 32)
  have hb3 : Below W.heap.size W (w3.alloc (.cells #[.slice A6 m c6] 32)) := hbW.trans (hal.mono hbW.size)
  have own3 := Oc.ownsRow_kept h1' (fun g hg => hb3.block g (hvb g hg).2)
  obtain ⟨v5, w5, hr, ho5, hg5, hn5⟩ := Jo.app_row (u := .slice A6 m c6) own3 (by omega) (by have := hb3.size; omega) (block_new w3 _) rfl
  obtain ⟨A5, n5, c5, rfl⟩ : ∃ A n c, v5 = .slice A n c := by
    rcases ho5.2 with ⟨h7, _⟩ | ⟨g, cap, cur, h7, _⟩
    · exact ⟨none, 0, 0, h7⟩
    · exact ⟨_, _, _, h7⟩
  have s3 := hb3.size
  have k5 : ∀ i, i < W.heap.size → v.ownBlock ≠ some i → w5.heap[i]? = W.heap[i]? := fun i hi hv => (hg5.block i (Nat.lt_of_lt_of_le hi s3) (fun e => hv e.symm)).trans (hb3.block i hi)
  have hb5 : Boxed w5 lb 31 v := (k5 lb hlW (fun e => by have := (hvb lb e).1; omega)).trans hbx
  have ho6 : Off (fun i => i = lb) w5 (w5.setCell ⟨lb, 0, none⟩ (.slice A5 n5 c5)) := Off.of_grown (grownBy_set _ _ _) fun i e => (Option.some.inj e).symm
  have k6 : ∀ i, i < W.heap.size → RKa lb (pre, v) i → (w5.setCell ⟨lb, 0, none⟩ (.slice A5 n5 c5)).heap[i]? = W.heap[i]? := fun i hi hk => (ho6.2 i (Nat.lt_of_lt_of_le hi (Nat.le_trans s3 hg5.size)) hk.1).trans (k5 i hi hk.2)
  have oT : Off (fun i => i = lb ∨ v.ownBlock = some i) W (w5.setCell ⟨lb, 0, none⟩ (.slice A5 n5 c5)) := ⟨⟨(ho6.1.os.trans hg5.os).trans hb3.os, (ho6.1.tape.trans hg5.tape).trans hb3.tape, (ho6.1.output.trans hg5.output).trans hb3.output, Nat.le_trans s3 (Nat.le_trans hg5.size ho6.1.size), fun i hi => absurd hi (Nat.not_lt_zero _)⟩, fun i hi hk => k6 i hi ⟨fun e => hk (.inl e), fun e => hk (.inr e)⟩⟩
  refine ⟨A5, n5, c5, w5, hr, hb5, ⟨Nat.le_trans s3 (Nat.le_trans hg5.size ho6.1.size), fun i hk hi => k6 i hi hk⟩, (pre ++ [b], .slice A5 n5 c5), rfl, ⟨block_put hb5 (.slice A5 n5 c5), ?_, ?_⟩, fun i hk hi => ⟨hk.1, fun e => ?_⟩⟩
  · refine ⟨us ++ [.slice A6 m c6], ?_, fun i u b' hu hb' => ?_⟩
    · have e2 : (pre ++ [b]).length = pre.length + 1 := by simp
      show World.ownsRow _ _ _ _ _ (pre ++ [b]).length _
      rw [e2]
      exact Oc.ownsRow_kept ho5 (fun g hg => ho6.2 g (ho5.lt g hg).2 (fun e => by have := (ho5.lt g hg).1; omega))
    · have hul : us.length = pre.length := by have := h1'.1; omega
      have hT : ∀ i, (i = lb ∨ (Value.slice A5 n5 c5).ownBlock = some i) → (i = lb ∨ v.ownBlock = some i) ∨ (w3.alloc (.cells #[.slice A6 m c6] 32)).heap.size ≤ i := fun i hi => by
        rcases hi with hi | hi
        · exact .inl (.inl hi)
        · exact (hn5 i hi).imp .inr id
      have hb' : (pre ++ [b])[i]? = some b' := hb'
      rw [List.getElem?_append] at hu hb'
      split at hu
      · rename_i hi
        rw [if_pos (by omega)] at hb'
        obtain ⟨a1, a2⟩ := h2 i u b' hu hb'
        refine ⟨Oc.ownsRow_kept a1 (fun g hg => oT.2 g (a1.lt g hg).2 (a2 g hg)), fun g hg ht => ?_⟩
        have a3 : g < W.heap.size := (a1.lt g hg).2
        rcases hT _ ht with h7 | h7
        · exact a2 g hg h7
        · omega
      · rename_i hi
        rw [if_neg (by omega)] at hb'
        have e3 : i - us.length = 0 := by
          have := (List.getElem?_eq_some_iff.1 hu).1
          simp at this; omega
        rw [← hul, e3] at hb'
        rw [e3] at hu
        simp at hu hb'
        subst hu hb'
        obtain ⟨ho1, ho2⟩ := ho
        refine ⟨Go.Joins.ownsRow_le (Oc.ownsRow_kept ho1 (fun g hg => k6 g (ho1.lt g hg).2 (ho2 g hg))) hb, fun g hg ht => ?_⟩
        have a3 := (ho1.lt g hg).2
        have a4 := ho2 g hg
        rcases hT _ ht with (h7 | h7) | h7
        · exact a4.1 h7
        · exact a4.2 h7
        · omega
  · refine h.bel.trans ⟨oT.1.os, oT.1.tape, oT.1.output, oT.1.size, fun i hi => k6 i (Nat.lt_of_lt_of_le hi h.bel.size) ⟨by omega, fun e => by have := (hvb i e).1; omega⟩⟩
  · rcases hn5 i e with h7 | h7
    · exact hk.2 h7
    · omega
end Go.Proofs.YtjijgoflbjbnfaaGreat.Vt

namespace Go.Proofs.YtjijgoflbjbnfaaGreat.Vt
open Go.RowKit Go.Shelf Fr Sr Jo Sp
attribute [local go_sem] Oper.semAt_some
theorem eR_put {N : Nat} {K : Nat → Prop} {x : List Int} {v : Value} {W : World} {k : Nat} {r : Loop} {o : Obj} (h : eR N K x v W) (hk : W.heap[k]? = some (.loop r)) : eR N K x v (W.putObj k o) := by
  refine ⟨Oc.ownsRow_kept h.1 (fun g hg => World.putObj_heap_other (fun e => ?_)), h.2⟩
  obtain ⟨cur, e8⟩ := row_heap (w := W) (l := x) (v := v) (Go.Joins.ownsRow_le h.1 (Nat.zero_le _)) hg
  rw [e, hk] at e8
  cases e8
set_option maxRecDepth 100000 in
set_option maxHeartbeats 4000000 in
theorem vall_any {w : World} {p j t nx vb m c fr : Nat} {s : S} {mb : Option Nat} {L : List Fi} {jn sd : Bool} {sv : Value} {xs : List Xr} {rs : List Re} {A : Option Addr} {pk : List (List Int)} {Z : Nat → Prop} (h : VaX w Z p vb s mb L j t jn nx sv xs rs A m c pk fr sd) (hlr : ∀ r ∈ rs, r.2.length ≤ 2000000) (hlp : ∀ b ∈ pk, b.length ≤ 2000000) (hpk : pk.length ≤ 10000) {R : List (List Int)} (hR : (rs.drop (Tb.pl xs (fr : Int))).map (·.2) = R) (hRl : R.length ≤ 10000) :
    Calls Tryz.prog 16 #[.pointer (some ⟨vb, 0, none⟩)] w fun e w' => ∃ v, e = .returned v ∧ RowsO w' w.heap.size (fun _ => False) v (pk ++ R) ∧ Below w.heap.size w w' := by
  obtain ⟨W1, hW1⟩ : ∃ W1, W1 = w.alloc (.cells #[.slice none 0 0] 31) := ⟨_, rfl⟩
  have hal : Below w.heap.size w W1 := by rw [hW1]; exact alloc_below _ _
  have hlb : Boxed W1 w.heap.size 31 (.slice none 0 0) := by rw [hW1]; exact Boxed.new _ _ _
  have HW1 := Lib.hid hW1
  have HH := Lib.hid h
  have HAL := Lib.hid hal
  have HLB := Lib.hid hlb
  have HP := Lib.hid (And.intro hlr (And.intro hlp hR))
  clear h hW1 hal hlb hlr hlp hR
  refine (callsIn_wide (n := 10)).1 ?_
  refine callsIn_of_wp_marks Tryz.func16 rfl trivial ?_ rfl
  simp only [Tryz.ntmps16, List.size_toArray, List.length_cons, List.length_nil, Nat.reduceAdd, Nat.reduceSub, Array.replicate_succ, Array.replicate_zero, List.push_toArray, List.append_toArray, List.nil_append, List.cons_append]
  gi_wp2_with (first
    | (refine ⟨trivial, ?_⟩; gi_at_call 37; refine (callsIn_wide.2 (veach_any _ _)).mono ?_; rintro e w' ⟨rfl, rfl⟩)
    | (refine ⟨trivial, ?_⟩; gi_at_call 31; refine (callsIn_wide.2 (vorNone_some _ _)).mono ?_; rintro e w' ⟨rfl, rfl⟩))
  obtain ⟨W2, hW2⟩ : ∃ W2, W2 = (w.alloc (.cells #[.slice none 0 0] 31)).alloc (.cells #[.pointer (some ⟨vb, 0, none⟩)] 28) := ⟨_, rfl⟩
  have h12 : Below W1.heap.size W1 W2 := by rw [hW2, HW1.out]; exact alloc_below _ _
  have hw2 : Below w.heap.size w W2 := HAL.out.trans (h12.mono HAL.out.size)
  have b1 : W2.heap[w.heap.size + 1]? = some (.cells #[.pointer (some ⟨vb, 0, none⟩)] 28 (0, 0)) := by
    rw [hW2]
    have := block_new (w.alloc (.cells #[.slice none 0 0] 31)) (.cells #[.pointer (some ⟨vb, 0, none⟩)] 28)
    rwa [World.size_alloc] at this
  have hI0 : RIa w w.heap.size ([], .slice none 0 0) W2 := ⟨block_kept HLB.out h12, ⟨[], World.ownsRow_nil _ _ _ _, fun i u b hu => by simp at hu⟩, hw2⟩
  have hz2 : W2.heap.size = w.heap.size + 1 + 1 := by rw [hW2]; simp
  rw [← hW2]
  clear hW2
  have hseq := each1_v (10 - 1) (by decide) (fun s : List (List Int) × Value => s.1) (RKa w.heap.size) (w.heap.size + 1) HH.out hw2 b1 HP.out.1 HP.out.2.1 (by omega) HP.out.2.2 (by omega)
  refine' range_v (β := List (List Int) × Value) (seen := fun s => s.1) (K := RKa w.heap.size) (C := fun K0 => Lo w.heap.size K0 ∧ K0 (w.heap.size + 1)) (E := fun _ _ => True) (R := eR W2.heap.size) (S := pk ++ R) (fun h hk => eR_put h hk) rfl (by decide) (gf := 62) (lb := #[.pointer (some ⟨w.heap.size + 1, 0, none⟩)]) rfl trivial (enters_of Tryz.func62 (by kernel_rfl) rfl)
    (B := w.heap.size) (by omega) hseq rfl (RIa w w.heap.size) (fun _ _ _ => False) (RIa.from (by omega)) (fun _ _ _ _ _ h _ _ => h) (fun s W' h i hi => ⟨by have := h.box.lt; omega, fun e => by
      obtain ⟨us, hr, _⟩ := h.row
      have := (hr.lt i e).2; omega⟩) (fun _ _ _ _ _ _ => trivial) ([], .slice none 0 0) rfl hI0 ⟨fun i hi => ⟨by omega, by simp [Value.ownBlock]⟩, by omega, by simp [Value.ownBlock]⟩ _ ?assign ?body ?done ?stop
  case assign =>
    intro l x v W K hK
    gi_wp2
    exact hK
  case stop =>
    rintro D c s r W _ _ h _
    exact h.elim
  case body =>
    rintro l2 ⟨pre, v⟩ b u W hI hu ⟨r, hr⟩
    obtain ⟨A6, m6, c6, rfl⟩ : ∃ A m c, u = .slice A m c := by
      rcases hu.1.2 with ⟨h3, _⟩ | ⟨g, cap, cur, h3, _⟩
      · exact ⟨none, 0, 0, h3⟩
      · exact ⟨_, _, _, h3⟩
    obtain ⟨A5, n5, c5, w5, hrun, hfin⟩ := all_step (Nat.le_refl _) hI (by
      have h1 : pk ++ R = pre ++ b :: r := hr
      have h2 := congrArg List.length h1
      simp at h2; omega) (by omega) hu
    have HRUN := Lib.hid hrun
    have HFIN := Lib.hid hfin
    have d1 : W.cell? ⟨w.heap.size, 0, none⟩ = some v := hI.box.cell
    have d3 : (W.alloc (.cells #[.slice A6 m6 c6] 32)).cell? ⟨w.heap.size, 0, none⟩ = some v := Lib.cell?_alloc_some _ d1
    have d5 := hfin.1.cell
    have f5 := hfin.1.frozen
    clear hrun hfin hu hr hI
    gi_wp2_with (refine listIn_app rfl _ _ 31 rfl v (.slice (some ⟨_, 0, none⟩) 1 1) rfl rfl (.slice A5 n5 c5) w5 HRUN.out ?_)
    exact HFIN.out.2
  case done =>
    rintro D ⟨pre, v⟩ W hD hs hI hK
    have hpl : pre = pk ++ R := hs
    subst hpl
    have x0 := hI.box.cell
    have HI := Lib.hid hI
    have HK := Lib.hid hK
    have HD := Lib.hid hD
    clear hs hI hK hD
    gi_wp2
    refine ⟨by simp, .inl ⟨_, _, rfl, run_takeDeferred HK.out, ?_⟩⟩
    refine ⟨_, results_tmp rfl _ _ _, _, rfl, ?_⟩
    have hf := (RIa.from (lb := w.heap.size) (Nat.le_refl _)).putObj (.deferred none) HI.out (by have := HD.out; omega) HK.out rfl
    refine ⟨?_, hf.bel⟩
    obtain ⟨us, h1, h2⟩ := hf.row
    exact ⟨us, ownsRow_base h1, fun i u b hu hb => ⟨Go.Joins.ownsRow_le (h2 i u b hu hb).1 (Nat.le_succ _), fun g hg => id⟩⟩
end Go.Proofs.YtjijgoflbjbnfaaGreat.Vt

namespace Go.Proofs.YtjijgoflbjbnfaaGreat.Vt
open Go.RowKit Fr Sr Jo Sp

theorem keys_sv {s : S} {L : List Fi} (bs : List Int) (h : KeysL L) : KeysL (svL s L bs) := by
  unfold svL
  split
  · unfold renL
    split
    · exact keys_put (keys_del (Sp.keys_wri _ _ h) _) _ _
    · exact Sp.keys_wri _ _ h
  · exact Sp.keys_wri _ _ h
theorem rowsO_toT {w : World} {N : Nat} {T T' : Nat → Prop} {v : Value} {bs : List (List Int)} (h : RowsO w N T v bs) (hT : ∀ i, T' i → i < N) : RowsT T' w v bs := by
  obtain ⟨us, h1, h2⟩ := h
  rcases h1.2 with ⟨h3, h4⟩ | ⟨g, cap, cur, h3, h4, h5, _⟩
  · subst h3
    exact ⟨none, 0, by rw [h4], fun hp => by omega⟩
  · subst h3
    refine ⟨_, cap, rfl, fun hp => ⟨g, 0, rfl, fun ht => by have := hT g ht; omega, (Array.getElem?_eq_some_iff.1 h5).1, fun i b hi => ?_⟩⟩
    have hil : i < bs.length := (List.getElem?_eq_some_iff.1 hi).1
    have hul : us.length = bs.length := by have := h1.1; omega
    obtain ⟨u, hu⟩ : ∃ u, us[i]? = some u := ⟨us[i], List.getElem?_eq_getElem (by omega)⟩
    obtain ⟨h6, _⟩ := h2 i u b hu hi
    have h7 := h1.cells (g := g) rfl i u hu
    rw [show (Addr.mk g 0 none).add i = ⟨g, 0 + i, none⟩ by unfold Addr.add; split <;> simp_all] at h7
    refine ⟨u, h7, BAt.of_own h6, fun hp a n c ha ht => ?_⟩
    rw [ha] at h6
    have := (h6.lt a.block rfl).1
    have := hT _ ht
    omega
theorem rowsO_blk {w : World} {N : Nat} {T : Nat → Prop} {A : Option Addr} {n c : Nat} {bs : List (List Int)} (h : RowsO w N T (.slice A n c) bs) : ∀ a, A = some a → N ≤ a.block ∧ a.block < w.heap.size := fun a ha => by
  obtain ⟨us, h1, _⟩ := h
  subst ha
  exact h1.lt a.block rfl
theorem tw_all {α : Type} (q : α → Bool) : ∀ (l : List α), (∀ x ∈ l, q x = true) → l.takeWhile q = l
  | [], _ => rfl
  | x :: l, h => by rw [List.takeWhile_cons, if_pos (h x List.mem_cons_self), tw_all q l fun y hy => h y (List.mem_cons_of_mem _ hy)]
section
variable {w : World} {p j t nx vb m c fr : Nat} {s : S} {mb : Option Nat} {L : List Fi} {sv : Value} {xs : List Xr} {rs : List Re} {A : Option Addr} {pk : List (List Int)} {Z : Nat → Prop}
theorem pl_all (h : JSt w p s mb L j t true nx sv xs rs) {k : Nat} (hk : nx ≤ k) : rs.drop (Tb.pl xs (k : Int)) = [] := by
  have h1 : Tb.pl xs (k : Int) = xs.length := by
    have h2 : (xs.takeWhile fun r => decide (r.1 < (k : Int))) = xs := tw_all _ _ fun x hx => by have := h.jr.lt x hx; simp; omega
    show (xs.takeWhile fun r => decide (r.1 < (k : Int))).length = _
    rw [h2]
  rw [h1, h.jr.vals.1]
  simp
/-- Trim of all. -/
theorem trim_all (h : VaX w Z p vb s mb L j t true nx sv xs rs A m c pk fr true) {k : Nat} (hk : nx ≤ k) (hl : ∀ r ∈ rs, r.2.length ≤ 1000 ∧ bok r.2) {E : Int} (hE : rpE s L [] = E) :
    Calls Tryz.prog 34 #[.pointer (some ⟨j, 0, none⟩), .int .i64 (k : Int)] w fun e w' => e = .returned (.int .i64 E) ∧ ∃ t' mb' L' sv' xs', VaX w' (Zn Z w w') p vb (rpS s L []) mb' L' j t' (sndE true E) nx sv' xs' (if E = 0 then [] else rs) A m c pk fr true ∧ Sr.Alike (rpL s L []) L' ∧ Off Z w w' := by
  have e1 := pl_all h.js hk
  have h1 := trim_any h.js (k : Int) hl (by rw [e1]; decide)
  rw [e1] at h1
  have e2 : (frs ([] : List Re)).flatten = [] := rfl
  rw [e2, hE] at h1
  refine h1.mono ?_
  rintro e w' ⟨rfl, t', mb', L', sv', ⟨xs', hj, hal⟩, ho, hn⟩
  exact ⟨rfl, t', mb', L', sv', xs', h.turn ho hn hj, hal, ho.mono h.zo⟩
/-- Behind Pack. -/
def Packed (w w' : World) (Z : Nat → Prop) (p vb : Nat) (s' : S) (Lc : List Fi) (j : Nat) (jn : Bool) (nx : Nat) (rs : List Re) (pk : List (List Int)) (fr : Nat) (sd : Bool) : Prop :=
  (∃ mb' L' t' sv' xs' A' m' c', VaX w' (Zn Z w w') p vb s' mb' L' j t' jn nx sv' xs' rs A' m' c' pk fr sd ∧ Sr.Alike Lc L') ∧ Off Z w w'
/-- What Pack tells, and what it leaves. -/
def paE (s : S) (L : List Fi) (bs : List Int) : Int := if svE s L bs = 0 then rpE (svS s L bs) (svL s L bs) [] else svE s L bs
def paS (s : S) (L : List Fi) (bs : List Int) : S := if svE s L bs = 0 then rpS (svS s L bs) (svL s L bs) [] else svS s L bs
def paL (s : S) (L : List Fi) (bs : List Int) : List Fi := if svE s L bs = 0 then rpL (svS s L bs) (svL s L bs) [] else svL s L bs
theorem told_at {E : Int} {jn jn2 : Bool} (hq : jn2 = sndE true E) (h : VaX w Z p vb s mb L j t jn nx sv xs rs A m c pk fr true) : Calls Tryz.prog 30 #[.pointer (some ⟨vb, 0, none⟩), .int .i64 E] w fun e w' => e = .returned (.int .i64 E) ∧ VaX w' Z p vb s mb L j t jn nx sv xs rs A m c pk fr jn2 ∧ Off (fun i => i = vb) w w' := by
  have h1 := vtold_any h E
  rw [← hq] at h1
  exact h1
set_option maxRecDepth 100000 in
set_option maxHeartbeats 2000000 in
theorem vpack_any (h : VaX w Z p vb s mb L j t true nx sv xs rs A m c pk fr true) {R ls : List (List Int)} (hR : (rs.drop (Tb.pl xs (fr : Int))).map (·.2) = R) (hls : pk ++ R = ls) (hlr : ∀ r ∈ rs, r.2.length ≤ 1000 ∧ bok r.2) (hlp : ∀ b ∈ pk, b.length ≤ 1000 ∧ bok b) (hn : ls.length = nx) (hn9 : nx ≤ 900) (hf : fitsS ls = true) (ht : tot ls ≤ 1000000) :
    Calls Tryz.prog 12 #[.pointer (some ⟨vb, 0, none⟩)] w fun e w' => e = .returned (.int .i64 (paE s L (encS ls))) ∧ Packed w w' Z p vb (paS s L (encS ls)) (paL s L (encS ls)) j (if svE s L (encS ls) = 0 then sndE true (paE s L (encS ls)) else true) nx (if paE s L (encS ls) = 0 then [] else rs) (if svE s L (encS ls) = 0 then ls else pk) (if svE s L (encS ls) = 0 then ls.length else fr) (sndE true (paE s L (encS ls))) := by
  have HSO := Lib.hid (vsound_any h)
  have hlen : pk.length ≤ 10000 ∧ R.length ≤ 10000 := by rw [← hls, List.length_append] at hn; omega
  have hal := vall_any h (fun r hr => by have := (hlr r hr).1; omega) (fun b hb => by have := (hlp b hb).1; omega) hlen.1 hR hlen.2
  rw [hls] at hal
  have hbs : ∀ l ∈ ls, bok l ∧ l.length ≤ 2000000 := fun l hl => by
    rw [← hls] at hl
    rcases List.mem_append.1 hl with h1 | h1
    · have := hlp l h1; exact ⟨this.2, by omega⟩
    · rw [← hR] at h1
      obtain ⟨r, hr, rfl⟩ := List.mem_map.1 h1
      have := hlr r (List.mem_of_mem_drop hr)
      exact ⟨this.2, by omega⟩
  have hsv : ∀ (w1 : World) (A1 : Option Addr) (n1 c1 : Nat), Below w.heap.size w w1 → RowsO w1 w.heap.size (fun _ => False) (.slice A1 n1 c1) ls →
      Calls Tryz.prog 33 #[.pointer (some ⟨vb, 0, none⟩), .slice A1 n1 c1] w1 fun e w' => e = .returned (.int .i64 (svE s L (encS ls))) ∧ (∃ mb' L' A' m' c', VaX w' (Zn Z w w') p vb (svS s L (encS ls)) mb' L' j t true nx sv xs rs A' m' c' (if svE s L (encS ls) = 0 then ls else pk) fr true ∧ Sr.Alike (svL s L (encS ls)) L') ∧ Off Z w w' := fun w1 A1 n1 c1 hb1 hr1 => by
    have h1 := (h.below hb1).zn (Z' := Zn Z w w1) (fun i hi => .inl hi) (zn_lt h.zl hb1.size)
    have h2 := vsave_any h1 (rowsO_toT hr1 (fun i hi => by
      rcases hi with hi | hi
      · exact h.js.tj_lt hi
      · rw [hi]; exact h.zl vb h.zv)) (fun _ a ha => .inr (rowsO_blk hr1 a ha)) hbs hf ht
    refine h2.mono ?_
    rintro e w' ⟨rfl, ⟨mb', L', A', m', c', hv, hal⟩, ho⟩
    have hs1 := hb1.size
    have hs2 := ho.1.size
    refine ⟨rfl, ⟨mb', L', A', m', c', hv.zn (fun i hi => ?_) (zn_lt h.zl (Nat.le_trans hs1 hs2)), hal⟩, off_two (Off.of_below (fun _ => False) hb1) ho (fun _ e => e.elim) (fun i hi => hi.imp id (fun h3 => h3.1))⟩
    rcases hi with (hi | hi) | hi
    · exact .inl hi
    · exact .inr ⟨hi.1, by omega⟩
    · exact .inr ⟨by omega, hi.2⟩
  have HSV := Lib.hid hsv
  have HAL := Lib.hid hal
  have HH := Lib.hid (And.intro h (And.intro hlr hn))
  have hks := keys_sv (s := s) (encS ls) h.js.st.keys
  have HKS := Lib.hid hks
  obtain ⟨n, hnn⟩ : ∃ n, n = ls.length := ⟨_, rfl⟩
  have HN := Lib.hid hnn
  obtain ⟨E1, hE1⟩ : ∃ E1, E1 = svE s L (encS ls) := ⟨_, rfl⟩
  unfold paE paS paL
  rw [← hE1] at HSV ⊢
  rw [← hnn]
  obtain ⟨pk1, hpk1⟩ : ∃ pk1, pk1 = (if E1 = 0 then ls else pk) := ⟨_, rfl⟩
  rw [← hpk1] at HSV ⊢
  clear h hR hls hlr hlp hn hf ht hlen hal hbs hsv hks hnn hE1
  by_cases hz : E1 = 0
  · subst hz
    rw [if_pos rfl] at hpk1
    rw [hpk1] at HSV ⊢
    clear hpk1
    rw [if_pos rfl, if_pos rfl, if_pos rfl, if_pos rfl, if_pos rfl]
    obtain ⟨s1, hs1⟩ : ∃ s1, s1 = svS s L (encS ls) := ⟨_, rfl⟩
    obtain ⟨L1, hL1⟩ : ∃ L1, L1 = svL s L (encS ls) := ⟨_, rfl⟩
    rw [← hL1] at HKS
    rw [← hs1, ← hL1] at HSV ⊢
    obtain ⟨E2, hE2⟩ : ∃ E2, E2 = rpE s1 L1 [] := ⟨_, rfl⟩
    obtain ⟨rs2, hrs2⟩ : ∃ rs2, rs2 = (if E2 = 0 then [] else rs) := ⟨_, rfl⟩
    obtain ⟨jn2, hjn2⟩ : ∃ jn2, jn2 = sndE true E2 := ⟨_, rfl⟩
    rw [← hE2, ← hrs2, ← hjn2]
    have HE2 := Lib.hid hE2
    have HRS := Lib.hid hrs2
    have HJN := Lib.hid hjn2
    clear hs1 hL1 hE2 hrs2 hjn2
    go_enter Tryz.func12, Tryz.ntmps12
    go_wp2_with (first
      | (go_at_call 30; (with_reducible refine HT5.out.mono ?_); rintro e w5 ⟨rfl, hv5, ho5⟩; have HV5 := Lib.hid hv5; have HO5 := Lib.hid ho5; clear hv5 ho5)
      | (go_at_call 34; (with_reducible refine HTR.out.mono ?_); rintro e w4 ⟨rfl, t4, mb4, L4, sv4, xs4, hv4, hal4, ho4⟩; have HV4 := Lib.hid hv4; have HAL4 := Lib.hid hal4; have HO4 := Lib.hid ho4; have HT5 := Lib.hid (told_at HJN.out hv4); clear hv4 hal4 ho4)
      | (go_at_call 30; (with_reducible refine (vtold_ok w2 vb 0 (by decide)).mono ?_); rintro e w' ⟨rfl, rfl⟩)
      | (go_at_call 33; (with_reducible refine (HSV.out w1 A1 n1 c1 HB1.out HR1.out).mono ?_); rintro e w2 ⟨rfl, ⟨mb2, L2, A2, m2, c2, hv2, hal2⟩, ho2⟩
         have HV2 := Lib.hid hv2
         have HAL2 := Lib.hid hal2
         have HO2 := Lib.hid ho2
         obtain ⟨⟨d0, d1, d2, d3, d4⟩, g0, g1, g2, g3, g4⟩ := five hv2.blk
         obtain ⟨W3, hW3⟩ : ∃ W3, W3 = w2.setCell ⟨vb, 3, none⟩ (.int .i64 (n1 : Int)) := ⟨_, rfl⟩
         have ho3 : Off (fun i => i = vb) w2 W3 := (by rw [hW3]; exact Off.of_grown (grownBy_set _ _ _) fun i e => (Option.some.inj e).symm)
         have hv3 := hv2.put ho3 (sd' := true) (fr' := n1) (by rw [hW3]; exact set_four hv2.blk 3 _ (by simp)) hv2.row hv2.zr
         have htr := trim_all hv3 (k := n1) (Nat.le_of_eq (by rw [← HH.out.2.2]; exact (rowsO_len HR1.out).symm)) HH.out.2.1 (E := E2) (by rw [HE2.out]; exact (rp_alike hal2 HKS.out hv2.js.st.keys s1 []).1)
         rw [hW3, ← HJN.out, ← HRS.out] at htr
         have HTR := Lib.hid htr
         have HO3 := Lib.hid ho3
         have HW3 := Lib.hid hW3
         clear hv2 hal2 ho2 ho3 hv3 htr hW3)
      | (go_at_call 16; (with_reducible refine HAL.out.mono ?_); rintro e w1 ⟨v1, rfl, hr1, hb1⟩; obtain ⟨A1, n1, c1, rfl⟩ := rowsO_eq hr1; have HR1 := Lib.hid hr1; have HB1 := Lib.hid hb1; clear hr1 hb1)
      | (go_at_call 19; (with_reducible refine HSO.out.mono ?_); rintro e w' ⟨rfl, rfl⟩))
    go_ret
    have hn1 : n1 = n := by rw [HN.out]; exact rowsO_len HR1.out
    subst hn1
    have hO3 := HO3.out
    rw [HW3.out] at hO3
    have z2 := HO2.out.1.size
    have z3 := hO3.1.size
    have z4 := HO4.out.1.size
    have z5 := HO5.out.1.size
    have zz : (w2.setCell ⟨vb, 3, none⟩ (.int .i64 (n1 : Int))).heap.size = w2.heap.size := by simp [World.setCell]
    have zv : Z vb := HH.out.1.zv
    have hv5 := HV5.out
    rw [(rp_alike HAL2.out HKS.out HV2.out.js.st.keys s1 []).2.1] at hv5
    refine ⟨rfl, ⟨mb4, L4, t4, sv4, xs4, A2, m2, c2, hv5.zn (fun i hi => ?_) (zn_lt HH.out.1.zl (by omega)), (rp_alike HAL2.out HKS.out HV2.out.js.st.keys s1 []).2.2.trans HAL4.out⟩, ?_⟩
    · rcases hi with (hi | hi) | hi
      · exact .inl hi
      · exact .inr ⟨hi.1, by omega⟩
      · exact .inr ⟨by omega, by omega⟩
    · refine off_two (off_two (off_two HO2.out hO3 (fun _ e => e) (fun i e => .inl (by rw [e]; exact zv))) HO4.out (fun _ e => e) (fun i hi => hi.imp id (fun h => h.1))) HO5.out (fun _ e => e) (fun i e => .inl (by rw [e]; exact zv))
  · rw [if_neg hz] at hpk1
    rw [hpk1] at HSV ⊢
    clear hpk1
    rw [if_neg hz, if_neg hz, if_neg hz, if_neg hz, if_neg hz, if_neg hz]
    obtain ⟨s1, hs1⟩ : ∃ s1, s1 = svS s L (encS ls) := ⟨_, rfl⟩
    obtain ⟨L1, hL1⟩ : ∃ L1, L1 = svL s L (encS ls) := ⟨_, rfl⟩
    rw [← hs1, ← hL1] at HSV ⊢
    obtain ⟨jn2, hjn2⟩ : ∃ jn2, jn2 = sndE true E1 := ⟨_, rfl⟩
    rw [← hjn2]
    have HJN := Lib.hid hjn2
    clear hs1 hL1 hjn2 HKS
    go_enter Tryz.func12, Tryz.ntmps12
    go_wp2_with (first
      | (go_at_call 30; (with_reducible refine HT5.out.mono ?_); rintro e w5 ⟨rfl, hv5, ho5⟩; have HV5 := Lib.hid hv5; have HO5 := Lib.hid ho5; clear hv5 ho5)
      | (go_at_call 33; (with_reducible refine (HSV.out w1 A1 n1 c1 HB1.out HR1.out).mono ?_); rintro e w2 ⟨rfl, ⟨mb2, L2, A2, m2, c2, hv2, hal2⟩, ho2⟩
         have HT5 := Lib.hid (told_at HJN.out hv2)
         have HAL2 := Lib.hid hal2
         have HO2 := Lib.hid ho2
         clear hv2 hal2 ho2)
      | (go_at_call 16; (with_reducible refine HAL.out.mono ?_); rintro e w1 ⟨v1, rfl, hr1, hb1⟩; obtain ⟨A1, n1, c1, rfl⟩ := rowsO_eq hr1; have HR1 := Lib.hid hr1; have HB1 := Lib.hid hb1; clear hr1 hb1)
      | (go_at_call 19; (with_reducible refine HSO.out.mono ?_); rintro e w' ⟨rfl, rfl⟩))
    go_ret
    have zv : Z vb := HH.out.1.zv
    have z2 := HO2.out.1.size
    have z5 := HO5.out.1.size
    exact ⟨rfl, ⟨mb2, L2, t, sv, xs, A2, m2, c2, HV5.out.zn (fun i hi => zn_mono z5 hi) (zn_lt HH.out.1.zl (by omega)), HAL2.out⟩, off_two HO2.out HO5.out (fun _ e => e) (fun i e => .inl (by rw [e]; exact zv))⟩
end
end Go.Proofs.YtjijgoflbjbnfaaGreat.Vt
