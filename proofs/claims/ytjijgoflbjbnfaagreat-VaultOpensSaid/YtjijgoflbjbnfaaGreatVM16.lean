/-
  A region that draws its order, in two: the first n operations in whatever order; behind all of them the others, one behind the other. No program.
-/
import Derived.Test.YtjijgoflbjbnfaaGreatVM12
import Derived.OrdersHeld
import Derived.Test.YtjijgoflbjbnfaaGreatVM13
namespace Go.Proofs.YtjijgoflbjbnfaaGreat
open Go Go.RowKit

/-- Behind the first operations come the others; any other way out is the region's. -/
def thenTail (P : Program) (ops : Array Oper) (Q : Exit → Act → World → Prop) (tl : List Oper) : Exit → Act → World → Prop
  | .normal, a, w => wpList P ops Q tl a w
  | .exit i, a, w => Q (.exit i) a w
  | .ret, a, w => Q .ret a w
  | .goto l, a, w => Q (.goto l) a w
  | .panic c, a, w => Q (.panic c) a w
  | .outgrown, a, w => Q .outgrown a w
section
variable {P : Program} {ops oh : Array Oper} {md : Region.Mode}
theorem wpOp_two {Q : Exit → Act → World → Prop} {tl : List Oper} {i : Nat} {o : Oper} (ho : ops[i]? = some o) (hoh : oh[i]? = some o) {a : Act} {w : World} (hw : Region.wanted o (yielded oh a.tmps) = Region.wanted o (yielded ops a.tmps)) {K K' : Act → World → Prop} (hK : ∀ a w, K a w → K' a w)
    (h : wpOp P oh (thenTail P ops Q tl) i K a w) : wpOp P ops Q i K' a w := by
  unfold wpOp at *
  simp only [ho, hoh] at *
  rw [hw] at h
  split
  · rename_i hwt
    simp only [hwt, if_true] at h
    rcases h with h | ⟨ha, a1, w1, hl⟩
    · refine .inl ?_
      unfold Oper.wp at *
      generalize (execOp a.eval o).run P w = r at *
      cases r with
      | ok n w' =>
        cases n <;> simp only [Oper.upon] at h ⊢
        case value u => exact hK _ _ h
        case skip => exact hK _ _ h
        case defer d => exact hK _ _ h
        case enter f args =>
          refine Calls.mono h fun e w'' he => ?_
          cases e with
          | returned u => exact hK _ _ he
          | panicked c => exact he
          | outgrown => obtain ⟨a1, w1, hl⟩ := he; exact ⟨a1, w1, hl⟩
        case row row args => exact Rows.mono h fun u w'' he => hK _ _ he
      | halt x w' =>
        cases x <;> simp only [Oper.upon] at h ⊢
        case panic u => exact h
    · exact .inr ⟨ha, a1, w1, hl⟩
  · rename_i hwt
    simp only [hwt] at h
    exact hK _ _ h
theorem wpAny_two {n g : Nat} {Q : Exit → Act → World → Prop} {tl : List Oper} (hh : ∀ i, i < n → oh[i]? = ops[i]?) (hn : n < ops.size) (hsz : oh.size = n) (hb : backB ops n = true) (hs : Region.sinkB md ops n = true) (hc : Region.chainB md ops n = true)
    (hQ : ∀ lh listed a w, Both md ops n lh listed → (∀ i, i < n → lh.getD i true = true) → wpList P ops Q tl a w → wpAny P md ops Q g listed a w) :
    ∀ (f : Nat) (lh listed : Array Bool) (a : Act) (w : World), Both md ops n lh listed → wpAny P md oh (thenTail P ops Q tl) f lh a w → wpAny P md ops Q (f + g) listed a w := by
  have hdone : ∀ (lh listed : Array Bool) (a : Act) (w : World) (f : Nat), Both md ops n lh listed → Region.ready md oh lh = [] → wpList P ops Q tl a w → wpAny P md ops Q (f + g) listed a w := fun lh listed a w f B h0 h => by
    refine wpAny_add f (hQ lh listed a w B (fun i hi => ?_) h)
    cases hu : lh.getD i true with
    | true => rfl
    | false =>
      obtain ⟨j, _, hj⟩ := head_ready hh hn hb B i hi hu
      rw [h0] at hj; cases hj
  intro f
  induction f with
  | zero => intro lh listed a w B h; exact hdone lh listed a w 0 B h.1 h.2
  | succ f ih =>
    intro lh listed a w B h
    cases h0 : Region.ready md oh lh with
    | nil => exact hdone lh listed a w (f + 1) B h0 (h.1 h0)
    | cons i0 r0 =>
      have hi0 : i0 ∈ Region.ready md oh lh := by rw [h0]; exact List.mem_cons_self
      have hi0n : i0 < n := by
        obtain ⟨_, o, ho, _⟩ := mem_ready.1 hi0
        have := (Array.getElem?_eq_some_iff.1 ho).1
        omega
      have hun : listed.getD i0 true = false := by rw [B.same i0 hi0n]; exact (mem_ready.1 hi0).1
      rw [show f + 1 + g = f + g + 1 by omega]
      refine ⟨fun hnil => ?_, fun i hi => ?_⟩
      · have := (ready_of_head hh hb B hi0n).1 hi0
        rw [hnil] at this; cases this
      · have hin : i < n := by
          rcases Nat.lt_or_ge i n with hlt | hge
          · exact hlt
          · exact absurd hi (tail_waits hs hc hn B.inv _ i0 rfl hi0n hun i hge)
        have hih := (ready_of_head hh hb B hin).2 hi
        obtain ⟨_, o, ho, _⟩ := mem_ready.1 hi
        have hoh : oh[i]? = some o := by rw [hh i hin]; exact ho
        exact wpOp_two ho hoh (wanted_head hh hb hin ho a.tmps) (fun a' w' h' => ih _ _ a' w' (B.set hin hi) h') (h.2 i hih)
end
theorem wp_region_two {P : Program} {id : Nat} {Q : Exit → Act → World → Prop} {a : Act} {w : World} {l : List Oper} (n : Nat) (hm : P.follows .mixedOrders = true)
    (hT : (decide (n < l.length) && (backB l.toArray n && (Region.sinkB .any l.toArray n && (Region.chainB .any l.toArray n && Region.seqB .any l.toArray (l.length - n) n (Array.replicate n true ++ Array.replicate (l.length - n) false))))) = true)
    (h : wpAny P .any (l.take n).toArray (thenTail P l.toArray Q (l.drop n)) n (Array.replicate n false) a w.drew) : (Code.region id l.toArray true).wp P Q a w := by
  simp only [Bool.and_eq_true, decide_eq_true_eq] at hT
  obtain ⟨hn, hb, hs, hc, hq⟩ := hT
  have htl : (l.take n).length = n := by rw [List.length_take]; omega
  have hdl : (l.drop n).length = l.length - n := by simp
  have hh : ∀ i, i < n → (l.take n).toArray[i]? = l.toArray[i]? := fun i hi => by simp [hi]
  refine wp_region_any hm ?_
  have := wpAny_two (P := P) (ops := l.toArray) (oh := (l.take n).toArray) (md := .any) (n := n) (g := l.length - n) (Q := Q) (tl := l.drop n) hh (by simpa using hn) (by simpa using htl) hb hs hc (fun lh listed a' w' B hall hwp => by
    have e : listed = Array.replicate n true ++ Array.replicate (l.length - n) false := by
      have hls : listed.size = l.length := by simpa using B.inv.size
      apply Array.ext (by simp; omega)
      intro i h1 h2
      rcases Nat.lt_or_ge i n with hlt | hge
      · rw [Array.getElem_append_left (by simpa using hlt), Array.getElem_replicate]
        have := hall i hlt
        rw [← B.same i hlt] at this
        simpa [h1] using this
      · rw [Array.getElem_append_right (by simpa using hge), Array.getElem_replicate]
        have := B.inv.tail i hge (by simpa using (by omega : i < l.length))
        simpa [h1] using this
    have hs2 := wpAny_of_seq (md := .any) (Q' := Q) (l.drop n) n listed a' w' (fun j => by simp [List.getElem?_drop]) (by rw [hdl, e]; exact hq) hwp
    rwa [hdl] at hs2) n (Array.replicate n false) (Array.replicate l.length false) a w.drew
    ⟨by simp, fun j hj b => by
      have h1 : j < l.length := by omega
      simp [h1, hj], ⟨by simp, fun j oj _ hl => (by rw [getD_replicate_false] at hl; cases hl), fun t _ ht => getD_in (by simpa using ht) (getD_replicate_false _ _)⟩⟩ h
  rw [show n + (l.length - n) = l.length by omega] at this
  simpa using this
end Go.Proofs.YtjijgoflbjbnfaaGreat

namespace Go.Proofs.YtjijgoflbjbnfaaGreat
open Go Go.RowKit

/-- Behind one operation; any other way out is the region's. -/
def thenK (Q : Exit → Act → World → Prop) (K : Act → World → Prop) : Exit → Act → World → Prop
  | .normal, a, w => K a w
  | .exit i, a, w => Q (.exit i) a w
  | .ret, a, w => Q .ret a w
  | .goto l, a, w => Q (.goto l) a w
  | .panic c, a, w => Q (.panic c) a w
  | .outgrown, a, w => Q .outgrown a w
section
variable {P : Program} {ops : Array Oper} {md : Region.Mode} {S : World → Prop}
theorem held_step {Q : Exit → Act → World → Prop} (i d : Nat) (v : Value) {oi : Oper} {fuel : Nat} {listed : Array Bool} {a : Act} {w : World} (hi : ops[i]? = some oi) (hd : oi.dst = some d) (hg : oi.guard = none)
    (hB : (Region.noSelect ops && (Region.free md ops listed i && (Region.ready md ops listed).contains i)) = true)
    (hQ : ∀ c a w, Q (.panic c) (a.put oi.dst v) w → Q (.panic c) a w) (hS : S w) (hy : ∀ w, S w → (execOp a.eval oi).run P w = .ok (.value v) w)
    (h : wpAnyH P md ops Q S fuel (listed.setIfInBounds i true) (a.put (some d) v) w) : wpAnyH P md ops Q S (fuel + 1) listed a w := by
  simp only [Bool.and_eq_true] at hB
  exact wpAnyH_take hi hB.1 hB.2.1 hB.2.2 hQ (.inl ⟨by unfold Region.wanted; rw [hg], hy⟩) hS (by rw [hd]; exact h)
theorem wpOp_of_list {Q : Exit → Act → World → Prop} {K : Act → World → Prop} {i : Nat} {o : Oper} {a : Act} {w : World} (ho : ops[i]? = some o) (h : wpList P ops (thenK Q K) [o] a w) : wpOp P ops Q i K a w := by
  unfold wpOp
  simp only [ho]
  unfold wpList at h
  split
  · rename_i hwt
    simp only [hwt, if_true] at h
    rcases h with h | ⟨ha, a1, w1, hl⟩
    · refine .inl ?_
      unfold Oper.wp at *
      generalize (execOp a.eval o).run P w = r at *
      cases r with
      | ok n w' =>
        cases n <;> simp only [Oper.upon] at h ⊢
        case value u => exact h
        case skip => exact h
        case defer d => exact h
        case enter f args =>
          refine Calls.mono h fun e w'' he => ?_
          cases e with
          | returned u => exact he
          | panicked c => exact he
          | outgrown => obtain ⟨a1, w1, hl⟩ := he; exact ⟨a1, w1, hl⟩
        case row row args => exact Rows.mono h fun u w'' he => he
      | halt x w' =>
        cases x <;> simp only [Oper.upon] at h ⊢
        case panic u => exact h
    · exact .inr ⟨ha, a1, w1, hl⟩
  · rename_i hwt
    simp only [hwt] at h
    exact h
/-- The last two, one behind the other. -/
theorem held_two {Q : Exit → Act → World → Prop} (k : Nat) {o1 o2 : Oper} {listed : Array Bool} {a : Act} {w : World} (h1 : ops[k]? = some o1) (h2 : ops[k + 1]? = some o2)
    (hB : (decide (Region.ready md ops listed = [k]) && (decide (Region.ready md ops (listed.setIfInBounds k true) = [k + 1]) && (Region.ready md ops ((listed.setIfInBounds k true).setIfInBounds (k + 1) true)).isEmpty)) = true)
    (h : wpList P ops (thenK Q fun a1 w1 => S w1 ∧ wpList P ops (thenK Q fun a2 w2 => S w2 ∧ Q .normal a2 w2) [o2] a1 w1) [o1] a w) : wpAnyH P md ops Q S 2 listed a w := by
  simp only [Bool.and_eq_true, decide_eq_true_eq, List.isEmpty_iff] at hB
  obtain ⟨r1, r2, r3⟩ := hB
  refine ⟨fun h0 => (by rw [r1] at h0; cases h0), fun i hi => ?_⟩
  rw [r1] at hi
  obtain rfl : i = k := by simpa using hi
  refine wpOp_mono (fun a1 w1 h' => ⟨h'.1, ?_⟩) (wpOp_of_list h1 h)
  refine ⟨fun h0 => (by rw [r2] at h0; cases h0), fun i hi => ?_⟩
  rw [r2] at hi
  obtain rfl : i = _ := by simpa using hi
  exact wpOp_mono (fun a2 w2 h'' => ⟨h''.1, r3, h''.2⟩) (wpOp_of_list h2 h'.2)
end
end Go.Proofs.YtjijgoflbjbnfaaGreat

namespace Go.Proofs.YtjijgoflbjbnfaaGreat.Sr
open Go.RowKit Fr

set_option maxRecDepth 100000 in
set_option maxHeartbeats 2000000 in
/-- Some bytes go behind the file's. -/
theorem append_put (w : World) (p : Nat) (s : S) (mb : Option Nat) (L : List Fi) (k : ByteArray) (A : Option Addr) (n c : Nat) (bs : List Int) (m : Nat) (h : StR w p s mb L) (hr : rdy s.d [k] = 0) (hf : ¬ s.room < s.used + n) (hn : n ≤ 1000000) (hbs : bs.length = n) (hm : useN s n = (m : Int)) (h0 : 0 < m) (hv : ∀ w', Off (own p mb L) w w' → BAt w' (.slice A n c) bs) :
    Calls Tryz.prog 90 #[.pointer (some ⟨p, 0, none⟩), .string k, .slice A n c] w fun e w' => e = .returned (.int .i64 (dwn (useS s n))) ∧ ∃ mb' v', Mv w w' p mb L { useS s n with used := s.used + m } mb' (putL L k (v', bytL L k ++ bs.take m)) := by
  have HR := Lib.hid (ready_one h.blk k)
  rw [hr] at HR
  have HS := Lib.hid h
  have hroom := h.room
  have hused := h.used
  have huse : ∀ W, Below w.heap.size w W → Calls Tryz.prog 43 #[.pointer (some ⟨p, 0, none⟩), .int .i64 (n : Int)] W fun e w' => e = .returned (.int .i64 (m : Int)) ∧ Own W w' p (useS s n) mb := fun W hW => by
    rw [← hm]; exact use_any W p s mb n ((h.below hW).blk) (by omega) h.left
  have HUS := Lib.hid huse
  have hok : okN k = true := by
    have : ([k].all okN) = true := by
      unfold rdy at hr
      split at hr
      · cases hr
      · split at hr
        · assumption
        · cases hr
    simpa using this
  have hks : k.size ≤ 12 := by
    unfold okN at hok
    simp only [Bool.and_eq_true, decide_eq_true_eq] at hok
    exact hok.1.2
  have hmn : m ≤ n := by have := useN_le s n h.left; omega
  have hle := byt_used L k
  have hcap : n ≤ c := by obtain ⟨_, _, e, h3, _⟩ := hv w (Off.refl _ _); cases e; omega
  have hst := slice_to A n c m (by omega)
  have HMN := Lib.hid hmn
  have HLE := Lib.hid hle
  have HV := Lib.hid hv
  have HBS := Lib.hid hbs
  have hkeep := Lib.hid (useS_keeps s n (by omega) h.left)
  obtain ⟨x, hx⟩ : ∃ x, x = s.room := ⟨_, rfl⟩
  obtain ⟨u, hu⟩ : ∃ u, u = s.used := ⟨_, rfl⟩
  have hx0 : 0 ≤ x ∧ x ≤ 1048576 := by omega
  have hu0 : 0 ≤ u ∧ u ≤ 1048576 := by omega
  rw [← hx, ← hu] at hf
  obtain ⟨x0, x1⟩ := hx0
  obtain ⟨u0, u1⟩ := hu0
  have e0 : (0 : Int) ≤ (n : Int) := by omega
  have e1 : (n : Int) ≤ 1000000 := by omega
  have m0 : (0 : Int) ≤ (m : Int) := by omega
  have m1 : (m : Int) ≤ (n : Int) := by omega
  have hroomN : Hid (((usedL L : Int) - (bytL L k).length + (bytL L k ++ bs.take m).length) ≤ s.room) := by
    show _ ≤ _
    rw [List.length_append, List.length_take]; omega
  have hlenN : Hid ((bytL L k ++ bs.take m).length = (bytL L k).length + m) := by
    show _ = _
    rw [List.length_append, List.length_take]; omega
  have hused0 : Hid (0 ≤ s.used ∧ s.used ≤ 4000000 ∧ (bytL L k).length ≤ 4000000 ∧ (bytL L k).length + m ≤ 4000000) := by
    show _ ∧ _
    omega
  have HX := Lib.hid hx
  have HU := Lib.hid hu
  obtain ⟨s1, hs1⟩ : ∃ s1, s1 = useS s n := ⟨_, rfl⟩
  rw [← hs1] at HUS hkeep ⊢
  obtain ⟨d1, hd1⟩ : ∃ d1, d1 = dwn s1 := ⟨_, rfl⟩
  rw [← hd1]
  have hstt : ∀ W mb', W.heap[p]? = some (blk { s1 with used := s.used + m } mb') → Calls Tryz.prog 45 #[.pointer (some ⟨p, 0, none⟩)] W fun e w' => e = .returned (.int .i64 d1) ∧ W = w' := fun W mb' hW => by
    rw [hd1]; exact state_any W p { s1 with used := s.used + m } mb' hW
  have HST := Lib.hid hstt
  clear h hr hx hu hroom hused huse hm hs1 hd1 hv hbs hok hmn hle hcap hstt
  go_enter Tryz.func90, Tryz.ntmps90
  go_upto_region 4 with (go_at_call 42; refine HR.out.mono ?_; rintro e w1 ⟨rfl, hb1⟩; have HB1 := Lib.hid hb1; clear hb1)
  have c3 : ∀ q : InW w1, q.val.cell? ⟨p, 3, none⟩ = some (.int .i64 x) := fun q => q.cell (by rw [HX.out]; exact (blk_cells (HS.out.below HB1.out).blk).1.2.2.2.1)
  have c4 : ∀ q : InW w1, q.val.cell? ⟨p, 4, none⟩ = some (.int .i64 u) := fun q => q.cell (by rw [HU.out]; exact (blk_cells (HS.out.below HB1.out).blk).1.2.2.2.2.1)
  refine wp_region_below (W := w1) (by kernel_rfl) (by kernel_rfl) (Below.refl _ _) ?_
  repeat (go_big_quiet_step (fail))
  refine wpQuiet_nil ?_
  rintro _ ⟨q0, rfl⟩
  obtain ⟨wq, hbq⟩ := q0
  try dsimp only
  have HBQ : Hid (Below w.heap.size w wq) := HB1.out.trans (hbq.mono HB1.out.size)
  clear c3 c4 hbq
  have g1 : decide (0 < m) = true := by simp; omega
  go_upto_region 8 with (go_at_call 43; (with_reducible refine (HUS.out _ HBQ.out).mono ?_); rintro e w2 ⟨rfl, how⟩; have HOW := Lib.hid how; clear how)
  have HMV : Hid (Mv w w2 p mb L s1 mb L) := (Mv.of_below HS.out HBQ.out).trans (Mv.of_own (HS.out.below HBQ.out) HOW.out hkeep.out.1 hkeep.out.2.1 hkeep.out.2.2)
  have c5 : w2.drew.cell? ⟨p, 5, none⟩ = some (.map mb) := (blk_cells HMV.out.st.blk).1.2.2.2.2.2
  obtain ⟨A0, n0, cc, hval⟩ : ∃ A0 n0 cc, valL L k = .slice A0 n0 cc := by
    obtain ⟨A0, cc, e, _⟩ := BAt.of_own (val_row HS.out.rows k); exact ⟨A0, _, cc, e⟩
  have hlk : (Instr.lookup 56 (.map mb) (.string k) false).run Tryz.prog w2.drew = .ok (.slice A0 n0 cc) w2.drew := by
    rw [← hval]; exact lookup_run (w := w2.drew) (L := L) HMV.out.st.map k false
  have HVAL := Lib.hid hval
  have hS0 : w2.drew.cell? ⟨p, 5, none⟩ = some (.map mb) ∧ (Instr.lookup 56 (.map mb) (.string k) false).run Tryz.prog w2.drew = .ok (.slice A0 n0 cc) w2.drew := ⟨c5, hlk⟩
  clear hval c5 hlk
  refine wp_region_two 12 (by kernel_rfl) (by kernel_rfl) ?_
  simp only [List.take_succ_cons, List.take_zero, List.drop_succ_cons, List.drop_zero]
  have HMV3 : Hid (Mv w w2.drew p mb L s1 mb L) := HMV.out.trans (Mv.of_below HMV.out.st (Below.refl _ _).drew)
  generalize w2.drew = w3 at hS0 HMV3 ⊢
  refine wpAny_of_held (S := fun w' => w'.cell? ⟨p, 5, none⟩ = some (.map mb) ∧ (Instr.lookup 56 (.map mb) (.string k) false).run Tryz.prog w' = .ok (.slice A0 n0 cc) w') _ _ _ _ ?_
  refine held_step 0 41 (.pointer (some ⟨p, 0, none⟩)) rfl rfl rfl (by kernel_rfl) (fun _ _ _ h => h) hS0 (fun w1 hS => by obtain ⟨s1, s2⟩ := hS; go_simp) ?_
  simp only [Act.put, List.setIfInBounds_toArray, List.set_cons_succ, List.set_cons_zero]
  refine held_step 1 42 (.string k) rfl rfl rfl (by kernel_rfl) (fun _ _ _ h => h) hS0 (fun w1 hS => by obtain ⟨s1, s2⟩ := hS; go_simp) ?_
  simp only [Act.put, List.setIfInBounds_toArray, List.set_cons_succ, List.set_cons_zero]
  refine held_step 2 43 (.pointer (some ⟨p, 0, none⟩)) rfl rfl rfl (by kernel_rfl) (fun _ _ _ h => h) hS0 (fun w1 hS => by obtain ⟨s1, s2⟩ := hS; go_simp) ?_
  simp only [Act.put, List.setIfInBounds_toArray, List.set_cons_succ, List.set_cons_zero]
  refine held_step 3 44 (.pointer (some ⟨p, 0, none⟩)) rfl rfl rfl (by kernel_rfl) (fun _ _ _ h => h) hS0 (fun w1 hS => by obtain ⟨s1, s2⟩ := hS; go_simp) ?_
  simp only [Act.put, List.setIfInBounds_toArray, List.set_cons_succ, List.set_cons_zero]
  refine held_step 4 45 (.pointer (some ⟨p, 5, none⟩)) rfl rfl rfl (by kernel_rfl) (fun _ _ _ h => h) hS0 (fun w1 hS => by obtain ⟨s1, s2⟩ := hS; go_simp) ?_
  simp only [Act.put, List.setIfInBounds_toArray, List.set_cons_succ, List.set_cons_zero]
  refine held_step 5 46 (.map mb) rfl rfl rfl (by kernel_rfl) (fun _ _ _ h => h) hS0 (fun w1 hS => by obtain ⟨s1, s2⟩ := hS; go_simp) ?_
  simp only [Act.put, List.setIfInBounds_toArray, List.set_cons_succ, List.set_cons_zero]
  refine held_step 6 47 (.string k) rfl rfl rfl (by kernel_rfl) (fun _ _ _ h => h) hS0 (fun w1 hS => by obtain ⟨s1, s2⟩ := hS; go_simp) ?_
  simp only [Act.put, List.setIfInBounds_toArray, List.set_cons_succ, List.set_cons_zero]
  refine held_step 7 48 (.slice A0 n0 cc) rfl rfl rfl (by kernel_rfl) (fun _ _ _ h => h) hS0 (fun w1 hS => by obtain ⟨s1, s2⟩ := hS; go_simp) ?_
  simp only [Act.put, List.setIfInBounds_toArray, List.set_cons_succ, List.set_cons_zero]
  refine held_step 8 49 (.slice A n c) rfl rfl rfl (by kernel_rfl) (fun _ _ _ h => h) hS0 (fun w1 hS => by obtain ⟨s1, s2⟩ := hS; go_simp) ?_
  simp only [Act.put, List.setIfInBounds_toArray, List.set_cons_succ, List.set_cons_zero]
  refine held_step 9 50 (.int .i64 (m : Int)) rfl rfl rfl (by kernel_rfl) (fun _ _ _ h => h) hS0 (fun w1 hS => by obtain ⟨s1, s2⟩ := hS; go_simp) ?_
  simp only [Act.put, List.setIfInBounds_toArray, List.set_cons_succ, List.set_cons_zero]
  obtain ⟨A4, c4, w4, hr4, ho4, hg4, hl4⟩ := app_at w3 (valL L k) (bytL L k) (val_row HMV3.out.st.rows k) (.slice A m c) (bs.take m) (by
    have := (BAt.take (HV.out w3 HMV3.out.off) m HMN.out).1; exact this) (by have := hused0.out; have := HMN.out; rw [List.length_take]; omega)
  have hmin : (bs.take m).length = m := by rw [List.length_take]; have := HMN.out; have := HBS.out; omega
  rw [hmin] at hr4 ho4 hl4
  rw [HVAL.out] at hr4
  obtain ⟨n4, hn4⟩ : ∃ n4, n4 = (bytL L k).length + m := ⟨_, rfl⟩
  rw [← hn4] at hr4 ho4 hl4
  have HN4 := Lib.hid hn4
  have hput : Calls Tryz.prog 44 #[.pointer (some ⟨p, 0, none⟩), .string k, .slice A4 n4 c4] w4 fun e w' => e = .returned (.tuple #[]) ∧ PutTo w4 w' p s1 mb L k (.slice A4 n4 c4) (bytL L k ++ bs.take m) n4 := by
    obtain ⟨k1, k2⟩ := app_keeps HMV3.out.st hg4
    refine put_any w4 p mb s1 L k A4 A0 n4 c4 n0 cc (bytL L k ++ bs.take m) k1 k2 hks HVAL.out ?_ ?_
    · obtain ⟨A9, c9, e, _⟩ := BAt.of_own (val_row HMV3.out.st.rows k)
      rw [HVAL.out] at e; cases e; rfl
    · have h1 := hused0.out
      have h2 := hkeep.out.1
      have h3 : n0 = (bytL L k).length := by
        obtain ⟨A9, c9, e, _⟩ := BAt.of_own (val_row HMV3.out.st.rows k)
        rw [HVAL.out] at e; cases e; rfl
      rw [h2, h3, hn4]; omega
  have HPUT := Lib.hid hput
  have HFIN : Hid (∀ w5, PutTo w4 w5 p s1 mb L k (.slice A4 n4 c4) (bytL L k ++ bs.take m) n4 → ∃ mb' v', Mv w w5 p mb L { s1 with used := s.used + m } mb' (putL L k (v', bytL L k ++ bs.take m))) := by
    intro w5 hP
    rw [hn4, ← hlenN.out] at hP
    obtain ⟨mb', v', hmv⟩ := app_step HMV3.out.st hg4 (by rw [hn4, ← hlenN.out] at ho4; exact ho4) (by rw [hn4, ← hlenN.out] at hl4; exact hl4) (by rw [hkeep.out.2.1]; exact hroomN.out) hP
    refine ⟨mb', v', HMV3.out.trans ?_⟩
    have hs : ({ s1 with used := s1.used + (((bytL L k ++ bs.take m).length : Int) - ((bytL L k).length : Int)) } : S) = { s1 with used := s.used + m } := by
      rw [hlenN.out, hkeep.out.1]; congr 1; omega
    rw [hs] at hmv; exact hmv
  clear hl4 ho4 hput hn4 hmin
  have HG4 := Lib.hid hg4
  have HR4 := Lib.hid hr4
  clear hg4 hr4
  have hS4 : w4.cell? ⟨p, 5, none⟩ = some (.map mb) ∧ (Instr.lookup 56 (.map mb) (.string k) false).run Tryz.prog w4 = .ok (.slice A0 n0 cc) w4 := by
    obtain ⟨k1, k2⟩ := app_keeps HMV3.out.st HG4.out
    exact ⟨(blk_cells k1).1.2.2.2.2.2, by rw [← HVAL.out]; exact lookup_run k2 k false⟩
  refine held_two 10 rfl rfl (by kernel_rfl) ?_
  go_wp2
  refine ⟨hS0, ?_⟩
  refine Lib.wpList_append_run _ rfl _ _ 32 32 rfl _ _ rfl rfl _ _ HR4.out ?_
  simp only [Act.put, List.setIfInBounds_toArray]
  refine ⟨hS4, ?_⟩
  show wpList _ _ _ _ _ _
  go_wp2_with (first
      | (go_at_call 45; (with_reducible refine (HST.out _ _ HMV5.out.st.blk).mono ?_); rintro e w6 ⟨rfl, rfl⟩)
      | (go_at_call 44; (with_reducible refine HPUT.out.mono ?_); rintro e w5 ⟨rfl, hp5⟩
         obtain ⟨mb', v', hmv5⟩ := HFIN.out w5 hp5
         have HMV5 := Lib.hid hmv5
         clear hp5 hmv5))
  go_ret
  exact ⟨rfl, mb', v', HMV5.out⟩
end Go.Proofs.YtjijgoflbjbnfaaGreat.Sr
