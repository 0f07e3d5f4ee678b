/-
  The contract of the reference's Check. Conditions: texts of at most 100000 bytes.
-/
import Derived.Test.YteahloddjekakaaDoorNM2
import Derived.Test.YteahloddjekakaaDoorNM5
import Derived.OrdersHeld
import Derived.Test.YteahloddjekakaaDoorNM3
import Derived.BigQuiet
namespace Go.Proofs.YteahloddjekakaaDoor.Td
open Go.RowKit

theorem memE_two (l : List Int) : Id.memE l = 0 ∨ Id.memE l = 3 := by
  unfold Id.memE; split
  · exact .inl rfl
  · exact .inr rfl

set_option maxRecDepth 100000 in
set_option maxHeartbeats 2000000 in
theorem rcheck_any (w : World) (x : Tr) (hx : Sm x) {r : Int} (hr : Hid (r = chk x)) :
    Calls Tryd.prog 35 #[.agg #[.int .i64 x.n, .string x.b, .string x.s, .string x.i, .int .i64 x.q, .int .i64 x.p]] w fun e w' => e = .returned (.int .i64 r) ∧ Below w.heap.size w w' := by
  by_cases h1 : x.n < 1
  · obtain rfl : r = 1 := by rw [hr.out]; unfold chk; rw [if_pos h1]
    go_enter Tryd.func35, Tryd.ntmps35
    go_wp2
    go_ret
    exact ⟨rfl, (Below.refl _ _).alloc (Nat.le_refl _) _⟩
  obtain ⟨m1, e1⟩ : ∃ z, z = Id.memE (Id.sb x.b) := ⟨_, rfl⟩
  obtain ⟨m2, e2⟩ : ∃ z, z = Id.memE (Id.sb x.s) := ⟨_, rfl⟩
  obtain ⟨m3, e3⟩ : ∃ z, z = Id.isinN (Id.sb x.i) := ⟨_, rfl⟩
  have c1 : ∀ W, Calls Tryd.prog 36 #[.string x.b] W fun e w' => e = .returned (.int .i64 m1) ∧ W = w' := fun W => by rw [e1]; exact Id.refMember_any W x.b hx.1
  have c2 : ∀ W, Calls Tryd.prog 36 #[.string x.s] W fun e w' => e = .returned (.int .i64 m2) ∧ W = w' := fun W => by rw [e2]; exact Id.refMember_any W x.s hx.2.1
  have c3 : ∀ W, Calls Tryd.prog 37 #[.string x.i] W fun e w' => e = .returned (.int .i64 m3) ∧ Below W.heap.size W w' := fun W => by rw [e3]; exact Id.refIsin_any W x.i hx.2.2
  have HR : Hid (r = if orL [m1, m2, m3] ≠ 0 then orL [m1, m2, m3] else if x.b = x.s then 6 else if badN x.q x.p = true then 2 else 0) := by
    show _ = _
    rw [hr.out]; unfold chk nameE; rw [if_neg h1, ← e1, ← e2, ← e3]
  have d1 : m1 = 0 ∨ m1 = 3 := by rw [e1]; exact memE_two _
  have d2 : m2 = 0 ∨ m2 = 3 := by rw [e2]; exact memE_two _
  have C1 := Lib.hid c1
  have C2 := Lib.hid c2
  have C3 := Lib.hid c3
  clear c1 c2 c3 e1 e2 e3 hr hx
  have B0 := Lib.hid ((Below.refl w.heap.size w).alloc (Nat.le_refl _) (.cells #[.int .i64 x.n, .string x.b, .string x.s, .string x.i, .int .i64 x.q, .int .i64 x.p] 23))
  obtain ⟨W0, hW0⟩ : ∃ W0, W0 = w.alloc (.cells #[.int .i64 x.n, .string x.b, .string x.s, .string x.i, .int .i64 x.q, .int .i64 x.p] 23) := ⟨_, rfl⟩
  have E0 := block_new w (.cells #[.int .i64 x.n, .string x.b, .string x.s, .string x.i, .int .i64 x.q, .int .i64 x.p] 23)
  rw [← hW0] at E0 B0
  obtain ⟨x0, x1, x2, x3, x4, x5⟩ := blk6 E0
  have S0 : Hid (W0.cell? ⟨w.heap.size, 1, none⟩ = some (.string x.b) ∧ W0.cell? ⟨w.heap.size, 2, none⟩ = some (.string x.s) ∧ W0.cell? ⟨w.heap.size, 3, none⟩ = some (.string x.i) ∧ W0.cell? ⟨w.heap.size, 4, none⟩ = some (.int .i64 x.q) ∧ W0.cell? ⟨w.heap.size, 5, none⟩ = some (.int .i64 x.p)) := ⟨x1, x2, x3, x4, x5⟩
  have HW0 := Lib.hid hW0
  clear E0 hW0
  go_enter Tryd.func35, Tryd.ntmps35
  go_upto_region 1 with fail
  rw [← HW0.out]
  clear HW0
  rcases d1 with rfl | rfl
  · rcases d2 with rfl | rfl
    · by_cases h3 : m3 = 0
      · subst h3
        have HR' : Hid (r = if x.b = x.s then 6 else if badN x.q x.p = true then 2 else 0) := HR
        clear HR
        by_cases hs : x.b = x.s
        · obtain rfl : r = 6 := by rw [HR'.out, if_pos hs]
          have hq : (x.b.toList == x.s.toList) = true := by rw [beqS]; exact decide_eq_true hs
          clear hs HR'
          go_wp2_with (first
            | (go_at_call 36; (with_reducible refine (C1.out _).mono ?_); rintro e w1 ⟨rfl, rfl⟩)
            | (go_at_call 36; (with_reducible refine (C2.out _).mono ?_); rintro e w2 ⟨rfl, rfl⟩)
            | (go_at_call 37; (with_reducible refine (C3.out _).mono ?_); rintro e w3 ⟨rfl, hb⟩; obtain ⟨y1, y2, y3, y4, y5⟩ := cell5 hb S0.out; have HB3 := Lib.hid (B0.out.trans (hb.mono B0.out.size)); clear hb))
          go_ret
          exact ⟨rfl, HB3.out⟩
        · have hq : (x.b.toList == x.s.toList) = false := by rw [beqS]; exact decide_eq_false hs
          have HR2 : Hid (r = if badN x.q x.p = true then 2 else 0) := by show _ = _; rw [HR'.out, if_neg hs]
          clear hs HR'
          go_upto_region 5 with (first
            | (go_at_call 36; (with_reducible refine (C1.out _).mono ?_); rintro e w1 ⟨rfl, rfl⟩)
            | (go_at_call 36; (with_reducible refine (C2.out _).mono ?_); rintro e w2 ⟨rfl, rfl⟩))
          go_upto_region 7 with (go_at_call 37; (with_reducible refine (C3.out _).mono ?_); rintro e w3 ⟨rfl, hb⟩; obtain ⟨y1, y2, y3, y4, y5⟩ := cell5 hb S0.out; have HB3 := Lib.hid (B0.out.trans (hb.mono B0.out.size)); clear hb)
          cases hbad : badN x.q x.p
          · obtain rfl : r = 0 := by rw [HR2.out, hbad]; rfl
            obtain ⟨b1, b2, b3, b4⟩ := bad_no hbad
            have b2' : ¬ x.q > 2147483647 := by omega
            have b4' : ¬ x.p > 2147483647 := by omega
            clear hbad HR2 b2 b4
            go_wp2
            go_ret
            exact ⟨rfl, HB3.out⟩
          · obtain rfl : r = 2 := by rw [HR2.out, hbad]; rfl
            have hc := bad_yes hbad
            clear hbad HR2
            rcases hc with b1 | ⟨b1, b2⟩ | ⟨b1, b2, b3⟩ | ⟨b1, b2, b3, b4⟩
            · go_wp2
              go_ret
              exact ⟨rfl, HB3.out⟩
            · have b2' : x.q > 2147483647 := by omega
              clear b2
              go_wp2
              go_ret
              exact ⟨rfl, HB3.out⟩
            · have b2' : ¬ x.q > 2147483647 := by omega
              clear b2
              go_wp2
              go_ret
              exact ⟨rfl, HB3.out⟩
            · have b2' : ¬ x.q > 2147483647 := by omega
              have b4' : x.p > 2147483647 := by omega
              clear b2 b4
              go_wp2
              go_ret
              exact ⟨rfl, HB3.out⟩
      · obtain rfl : r = m3 := by rw [HR.out]; simp [orL, h3]
        go_wp2_with (first
          | (go_at_call 36; (with_reducible refine (C1.out _).mono ?_); rintro e w1 ⟨rfl, rfl⟩)
          | (go_at_call 36; (with_reducible refine (C2.out _).mono ?_); rintro e w2 ⟨rfl, rfl⟩)
          | (go_at_call 37; (with_reducible refine (C3.out w3).mono ?_); rintro e w4 ⟨rfl, hb⟩; have HB4 := Lib.hid (HB3.out.trans (hb.mono HB3.out.size)); clear hb)
          | (go_at_call 37; (with_reducible refine (C3.out W0).mono ?_); rintro e w3 ⟨rfl, hb⟩; obtain ⟨y1, y2, y3, y4, y5⟩ := cell5 hb S0.out; have HB3 := Lib.hid (B0.out.trans (hb.mono B0.out.size)); clear hb))
        go_ret
        exact ⟨rfl, HB4.out⟩
    · obtain rfl : r = 3 := by rw [HR.out]; simp [orL]
      go_wp2_with (first
        | (go_at_call 36; (with_reducible refine (C1.out _).mono ?_); rintro e w1 ⟨rfl, rfl⟩)
        | (go_at_call 36; (with_reducible refine (C2.out _).mono ?_); rintro e w2 ⟨rfl, rfl⟩))
      go_ret
      exact ⟨rfl, B0.out⟩
  · obtain rfl : r = 3 := by rw [HR.out]; simp [orL]
    go_wp2_with (go_at_call 36; (with_reducible refine (C1.out _).mono ?_); rintro e w1 ⟨rfl, rfl⟩)
    go_ret
    exact ⟨rfl, B0.out⟩
end Go.Proofs.YteahloddjekakaaDoor.Td

namespace Go.Proofs.YteahloddjekakaaDoor
open Go Go.RowKit

/-- Behind the first operations come the others; any other way out is the region's. -/
def thenTail (P : Program) (ops : Array Oper) (Q : Exit → Act → World → Prop) (tl : List Oper) : Exit → Act → World → Prop
  | .normal, a, w => wpList P ops Q tl a w
  | .exit i, a, w => Q (.exit i) a w
  | .ret, a, w => Q .ret a w
  | .goto l, a, w => Q (.goto l) a w
  | .panic c, a, w => Q (.panic c) a w
  | .outgrown, a, w => Q .outgrown a w
section
variable {P : Program} {ops oh : Array Oper} {md : Region.Mode}
theorem wpOp_two {Q : Exit → Act → World → Prop} {tl : List Oper} {i : Nat} {o : Oper} (ho : ops[i]? = some o) (hoh : oh[i]? = some o) {a : Act} {w : World} (hw : Region.wanted o (yielded oh a.tmps) = Region.wanted o (yielded ops a.tmps)) {K K' : Act → World → Prop} (hK : ∀ a w, K a w → K' a w)
    (h : wpOp P oh (thenTail P ops Q tl) i K a w) : wpOp P ops Q i K' a w := by
  unfold wpOp at *
  simp only [ho, hoh] at *
  rw [hw] at h
  split
  · rename_i hwt
    simp only [hwt, if_true] at h
    rcases h with h | ⟨ha, a1, w1, hl⟩
    · refine .inl ?_
      unfold Oper.wp at *
      generalize (execOp a.eval o).run P w = r at *
      cases r with
      | ok n w' =>
        cases n <;> simp only [Oper.upon] at h ⊢
        case value u => exact hK _ _ h
        case skip => exact hK _ _ h
        case defer d => exact hK _ _ h
        case enter f args =>
          refine Calls.mono h fun e w'' he => ?_
          cases e with
          | returned u => exact hK _ _ he
          | panicked c => exact he
          | outgrown => obtain ⟨a1, w1, hl⟩ := he; exact ⟨a1, w1, hl⟩
        case row row args => exact Rows.mono h fun u w'' he => hK _ _ he
      | halt x w' =>
        cases x <;> simp only [Oper.upon] at h ⊢
        case panic u => exact h
    · exact .inr ⟨ha, a1, w1, hl⟩
  · rename_i hwt
    simp only [hwt] at h
    exact hK _ _ h
theorem wpAny_two {n g : Nat} {Q : Exit → Act → World → Prop} {tl : List Oper} (hh : ∀ i, i < n → oh[i]? = ops[i]?) (hn : n < ops.size) (hsz : oh.size = n) (hb : backB ops n = true) (hs : Region.sinkB md ops n = true) (hc : Region.chainB md ops n = true)
    (hQ : ∀ lh listed a w, Both md ops n lh listed → (∀ i, i < n → lh.getD i true = true) → wpList P ops Q tl a w → wpAny P md ops Q g listed a w) :
    ∀ (f : Nat) (lh listed : Array Bool) (a : Act) (w : World), Both md ops n lh listed → wpAny P md oh (thenTail P ops Q tl) f lh a w → wpAny P md ops Q (f + g) listed a w := by
  have hdone : ∀ (lh listed : Array Bool) (a : Act) (w : World) (f : Nat), Both md ops n lh listed → Region.ready md oh lh = [] → wpList P ops Q tl a w → wpAny P md ops Q (f + g) listed a w := fun lh listed a w f B h0 h => by
    refine wpAny_add f (hQ lh listed a w B (fun i hi => ?_) h)
    cases hu : lh.getD i true with
    | true => rfl
    | false =>
      obtain ⟨j, _, hj⟩ := head_ready hh hn hb B i hi hu
      rw [h0] at hj; cases hj
  intro f
  induction f with
  | zero => intro lh listed a w B h; exact hdone lh listed a w 0 B h.1 h.2
  | succ f ih =>
    intro lh listed a w B h
    cases h0 : Region.ready md oh lh with
    | nil => exact hdone lh listed a w (f + 1) B h0 (h.1 h0)
    | cons i0 r0 =>
      have hi0 : i0 ∈ Region.ready md oh lh := by rw [h0]; exact List.mem_cons_self
      have hi0n : i0 < n := by
        obtain ⟨_, o, ho, _⟩ := mem_ready.1 hi0
        have := (Array.getElem?_eq_some_iff.1 ho).1
        omega
      have hun : listed.getD i0 true = false := by rw [B.same i0 hi0n]; exact (mem_ready.1 hi0).1
      rw [show f + 1 + g = f + g + 1 by omega]
      refine ⟨fun hnil => ?_, fun i hi => ?_⟩
      · have := (ready_of_head hh hb B hi0n).1 hi0
        rw [hnil] at this; cases this
      · have hin : i < n := by
          rcases Nat.lt_or_ge i n with hlt | hge
          · exact hlt
          · exact absurd hi (tail_waits hs hc hn B.inv _ i0 rfl hi0n hun i hge)
        have hih := (ready_of_head hh hb B hin).2 hi
        obtain ⟨_, o, ho, _⟩ := mem_ready.1 hi
        have hoh : oh[i]? = some o := by rw [hh i hin]; exact ho
        exact wpOp_two ho hoh (wanted_head hh hb hin ho a.tmps) (fun a' w' h' => ih _ _ a' w' (B.set hin hi) h') (h.2 i hih)
end
theorem wp_region_two {P : Program} {id : Nat} {Q : Exit → Act → World → Prop} {a : Act} {w : World} {l : List Oper} (n : Nat) (hm : P.follows .mixedOrders = true)
    (hT : (decide (n < l.length) && (backB l.toArray n && (Region.sinkB .any l.toArray n && (Region.chainB .any l.toArray n && Region.seqB .any l.toArray (l.length - n) n (Array.replicate n true ++ Array.replicate (l.length - n) false))))) = true)
    (h : wpAny P .any (l.take n).toArray (thenTail P l.toArray Q (l.drop n)) n (Array.replicate n false) a w.drew) : (Code.region id l.toArray true).wp P Q a w := by
  simp only [Bool.and_eq_true, decide_eq_true_eq] at hT
  obtain ⟨hn, hb, hs, hc, hq⟩ := hT
  have htl : (l.take n).length = n := by rw [List.length_take]; omega
  have hdl : (l.drop n).length = l.length - n := by simp
  have hh : ∀ i, i < n → (l.take n).toArray[i]? = l.toArray[i]? := fun i hi => by simp [hi]
  refine wp_region_any hm ?_
  have := wpAny_two (P := P) (ops := l.toArray) (oh := (l.take n).toArray) (md := .any) (n := n) (g := l.length - n) (Q := Q) (tl := l.drop n) hh (by simpa using hn) (by simpa using htl) hb hs hc (fun lh listed a' w' B hall hwp => by
    have e : listed = Array.replicate n true ++ Array.replicate (l.length - n) false := by
      have hls : listed.size = l.length := by simpa using B.inv.size
      apply Array.ext (by simp; omega)
      intro i h1 h2
      rcases Nat.lt_or_ge i n with hlt | hge
      · rw [Array.getElem_append_left (by simpa using hlt), Array.getElem_replicate]
        have := hall i hlt
        rw [← B.same i hlt] at this
        simpa [h1] using this
      · rw [Array.getElem_append_right (by simpa using hge), Array.getElem_replicate]
        have := B.inv.tail i hge (by simpa using (by omega : i < l.length))
        simpa [h1] using this
    have hs2 := wpAny_of_seq (md := .any) (Q' := Q) (l.drop n) n listed a' w' (fun j => by simp [List.getElem?_drop]) (by rw [hdl, e]; exact hq) hwp
    rwa [hdl] at hs2) n (Array.replicate n false) (Array.replicate l.length false) a w.drew
    ⟨by simp, fun j hj b => by
      have h1 : j < l.length := by omega
      simp [h1, hj], ⟨by simp, fun j oj _ hl => (by rw [getD_replicate_false] at hl; cases hl), fun t _ ht => getD_in (by simpa using ht) (getD_replicate_false _ _)⟩⟩ h
  rw [show n + (l.length - n) = l.length by omega] at this
  simpa using this
end Go.Proofs.YteahloddjekakaaDoor

namespace Go.Proofs.YteahloddjekakaaDoor
open Go Go.RowKit

/-- Behind one operation; any other way out is the region's. -/
def thenK (Q : Exit → Act → World → Prop) (K : Act → World → Prop) : Exit → Act → World → Prop
  | .normal, a, w => K a w
  | .exit i, a, w => Q (.exit i) a w
  | .ret, a, w => Q .ret a w
  | .goto l, a, w => Q (.goto l) a w
  | .panic c, a, w => Q (.panic c) a w
  | .outgrown, a, w => Q .outgrown a w
section
variable {P : Program} {ops : Array Oper} {md : Region.Mode} {S : World → Prop}
theorem held_step {Q : Exit → Act → World → Prop} (i d : Nat) (v : Value) {oi : Oper} {fuel : Nat} {listed : Array Bool} {a : Act} {w : World} (hi : ops[i]? = some oi) (hd : oi.dst = some d) (hg : oi.guard = none)
    (hB : (Region.noSelect ops && (Region.free md ops listed i && (Region.ready md ops listed).contains i)) = true)
    (hQ : ∀ c a w, Q (.panic c) (a.put oi.dst v) w → Q (.panic c) a w) (hS : S w) (hy : ∀ w, S w → (execOp a.eval oi).run P w = .ok (.value v) w)
    (h : wpAnyH P md ops Q S fuel (listed.setIfInBounds i true) (a.put (some d) v) w) : wpAnyH P md ops Q S (fuel + 1) listed a w := by
  simp only [Bool.and_eq_true] at hB
  exact wpAnyH_take hi hB.1 hB.2.1 hB.2.2 hQ (.inl ⟨by unfold Region.wanted; rw [hg], hy⟩) hS (by rw [hd]; exact h)
theorem wpOp_of_list {Q : Exit → Act → World → Prop} {K : Act → World → Prop} {i : Nat} {o : Oper} {a : Act} {w : World} (ho : ops[i]? = some o) (h : wpList P ops (thenK Q K) [o] a w) : wpOp P ops Q i K a w := by
  unfold wpOp
  simp only [ho]
  unfold wpList at h
  split
  · rename_i hwt
    simp only [hwt, if_true] at h
    rcases h with h | ⟨ha, a1, w1, hl⟩
    · refine .inl ?_
      unfold Oper.wp at *
      generalize (execOp a.eval o).run P w = r at *
      cases r with
      | ok n w' =>
        cases n <;> simp only [Oper.upon] at h ⊢
        case value u => exact h
        case skip => exact h
        case defer d => exact h
        case enter f args =>
          refine Calls.mono h fun e w'' he => ?_
          cases e with
          | returned u => exact he
          | panicked c => exact he
          | outgrown => obtain ⟨a1, w1, hl⟩ := he; exact ⟨a1, w1, hl⟩
        case row row args => exact Rows.mono h fun u w'' he => he
      | halt x w' =>
        cases x <;> simp only [Oper.upon] at h ⊢
        case panic u => exact h
    · exact .inr ⟨ha, a1, w1, hl⟩
  · rename_i hwt
    simp only [hwt] at h
    exact h
/-- The last two, one behind the other. -/
theorem held_two {Q : Exit → Act → World → Prop} (k : Nat) {o1 o2 : Oper} {listed : Array Bool} {a : Act} {w : World} (h1 : ops[k]? = some o1) (h2 : ops[k + 1]? = some o2)
    (hB : (decide (Region.ready md ops listed = [k]) && (decide (Region.ready md ops (listed.setIfInBounds k true) = [k + 1]) && (Region.ready md ops ((listed.setIfInBounds k true).setIfInBounds (k + 1) true)).isEmpty)) = true)
    (h : wpList P ops (thenK Q fun a1 w1 => S w1 ∧ wpList P ops (thenK Q fun a2 w2 => S w2 ∧ Q .normal a2 w2) [o2] a1 w1) [o1] a w) : wpAnyH P md ops Q S 2 listed a w := by
  simp only [Bool.and_eq_true, decide_eq_true_eq, List.isEmpty_iff] at hB
  obtain ⟨r1, r2, r3⟩ := hB
  refine ⟨fun h0 => (by rw [r1] at h0; cases h0), fun i hi => ?_⟩
  rw [r1] at hi
  obtain rfl : i = k := by simpa using hi
  refine wpOp_mono (fun a1 w1 h' => ⟨h'.1, ?_⟩) (wpOp_of_list h1 h)
  refine ⟨fun h0 => (by rw [r2] at h0; cases h0), fun i hi => ?_⟩
  rw [r2] at hi
  obtain rfl : i = _ := by simpa using hi
  exact wpOp_mono (fun a2 w2 h'' => ⟨h''.1, r3, h''.2⟩) (wpOp_of_list h2 h'.2)
end
end Go.Proofs.YteahloddjekakaaDoor

namespace Go.Proofs.YteahloddjekakaaDoor
open Go Go.RowKit

section
variable {P : Program} {ops : Array Oper} {Q : Exit → Act → World → Prop} {K : Act → World → Prop}
theorem wpList_cut {l2 : List Oper} (hK : ∀ a w, K a w → wpList P ops Q l2 a w) : ∀ (l1 : List Oper) (a : Act) (w : World), wpList P ops (thenK Q K) l1 a w → wpList P ops Q (l1 ++ l2) a w
  | [], a, w, h => hK a w h
  | o :: l, a, w, h => by
    have ih := wpList_cut hK l
    show wpList P ops Q (o :: (l ++ l2)) a w
    rw [wpList] at h ⊢
    split
    · rename_i hwt
      simp only [hwt, if_true] at h
      rcases h with h | ⟨ha, a1, w1, hl⟩
      · refine .inl ?_
        unfold Oper.wp at *
        generalize (execOp a.eval o).run P w = r at *
        cases r with
        | ok n w' =>
          cases n <;> simp only [Oper.upon] at h ⊢
          case value u => exact ih _ _ h
          case skip => exact ih _ _ h
          case defer d => exact ih _ _ h
          case enter f args =>
            refine Calls.mono h fun e w'' he => ?_
            cases e with
            | returned u => exact ih _ _ he
            | panicked c => exact he
            | outgrown => obtain ⟨a1, w1, hl⟩ := he; exact ⟨a1, w1, hl⟩
          case row row args => exact Rows.mono h fun u w'' he => ih _ _ he
        | halt x w' =>
          cases x <;> simp only [Oper.upon] at h ⊢
          case panic u => exact h
      · exact .inr ⟨ha, a1, w1, hl⟩
    · rename_i hwt
      simp only [hwt] at h
      exact ih _ _ h
theorem wpList_cutn {l : List Oper} {a : Act} {w : World} (n : Nat) (K : Act → World → Prop) (h1 : wpList P ops (thenK Q K) (l.take n) a w) (h2 : ∀ a w, K a w → wpList P ops Q (l.drop n) a w) : wpList P ops Q l a w := by
  have := wpList_cut h2 (l.take n) a w h1
  rwa [List.take_append_drop] at this
theorem thenK_mk {a : Act} {w : World} (h : K a w) : thenK Q K .normal a w := h
end
end Go.Proofs.YteahloddjekakaaDoor

namespace Go.Proofs.YteahloddjekakaaDoor.Nt
open Go.RowKit Td

set_option maxRecDepth 100000 in
set_option maxHeartbeats 4000000 in
theorem sortedF (w : World) (A : Option Addr) (n c : Nat) (l : List Rw) (hl : Hid (RR w A l)) (hn : Hid (n = l.length)) (hm : n ≤ 1000) {r : Bool} (hr : Hid (r = srtB l)) :
    Calls Tryd.prog 16 #[.slice A n c] w fun e w' => e = .returned (.bool r) ∧ Below w.heap.size w w' := by
  go_enter Tryd.func16, Tryd.ntmps16
  go_wp2
  go_loopg [3] n (fun (gh : Nat) si wx => ∃ i : Nat, gh = n + 1 - i ∧ i ≤ n + 1 ∧ 1 ≤ i ∧ si = .int .i64 (i : Int) ∧ Hid (Below w.heap.size w wx) ∧ Hid (r = srtB (l.drop (i - 1))))
  case atStart => exact ⟨1, by omega, by omega, by omega, rfl, Below.refl _ _, hr⟩
  case round =>
    obtain ⟨i, rfl, hi, hi1, rfl, HB, HS⟩ := hrel
    by_cases hlt : i < n
    · have t1 : (i : Int) < (n : Int) := by omega
      have t2 : (0 : Int) ≤ (i : Int) := by omega
      have t3 : (0 : Int) ≤ (i : Int) - 1 := by omega
      have t4 : (i : Int) - 1 < (n : Int) := by omega
      obtain ⟨y, hy⟩ : ∃ y, l[i]? = some y := ⟨_, List.getElem?_eq_getElem (by rw [← hn.out]; exact hlt)⟩
      obtain ⟨x, hx⟩ : ∃ x, l[i - 1]? = some x := ⟨_, List.getElem?_eq_getElem (by rw [← hn.out]; omega)⟩
      have hstep := srt_step hx (show l[i - 1 + 1]? = some y by rw [show i - 1 + 1 = i by omega]; exact hy)
      rw [show i - 1 + 1 = i by omega] at hstep
      obtain ⟨g, o, rfl, hg, cy, _⟩ := (hl.out.below HB.out).at hy
      obtain ⟨g', o', e', _, cx, _⟩ := (hl.out.below HB.out).at hx
      cases e'
      obtain ⟨j, hj⟩ : ∃ j, j = i - 1 := ⟨_, rfl⟩
      rw [← hj] at cx
      have hji : (i : Int) - 1 = (j : Int) := by omega
      have hjn : (j : Int) < (n : Int) := by omega
      have hj0 : (0 : Int) ≤ (j : Int) := by omega
      have HX : Hid (r = (ltS x.1 y.1 && srtB (l.drop i))) := by show _ = _; rw [HS.out, hstep]
      clear hstep hx hy hj t3 t4 HS
      cases hq : ltS x.1 y.1
      · obtain rfl : r = false := by rw [HX.out, hq]; rfl
        clear HX
        have q1 : Op.bytesLess x.1.toList y.1.toList = false := hq
        clear hq
        go_wp2
        go_quiet (fail)
        go_wp2
        go_ret
        exact ⟨rfl, (Id.below_drewN HB.out _)⟩
      · have HX' : Hid (r = srtB (l.drop i)) := by show _ = _; rw [HX.out, hq]; rfl
        clear HX
        have q1 : Op.bytesLess x.1.toList y.1.toList = true := hq
        clear hq
        go_wp2
        go_quiet (fail)
        go_wp2
        go_roundg (n + 1 - (i + 1))
        case measure => omega
        case rel => exact ⟨i + 1, rfl, by omega, by omega, by go_num, (Id.below_drewN HB.out _), HX'⟩
    · have hq : srtB (l.drop (i - 1)) = true := srt_end (by rw [← hn.out]; omega)
      obtain rfl : r = true := by rw [HS.out, hq]
      clear hq
      go_wp2
      go_ret
      exact ⟨rfl, HB.out⟩
end Go.Proofs.YteahloddjekakaaDoor.Nt
