/-
  The contract of the reference's Check. Conditions: texts of at most 100000 bytes.
-/
import Derived.Test.YteahloddjekakaaDoorYChk
namespace Go.Proofs.YteahloddjekakaaDoor.Td
open Go.RowKit

theorem memE_two (l : List Int) : Id.memE l = 0 ∨ Id.memE l = 3 := by
  unfold Id.memE; split
  · exact .inl rfl
  · exact .inr rfl

set_option maxRecDepth 100000 in
set_option maxHeartbeats 2000000 in
theorem rcheck_any (w : World) (x : Tr) (hx : Sm x) {r : Int} (hr : Hid (r = chk x)) :
    Calls Tryd.prog 35 #[.agg #[.int .i64 x.n, .string x.b, .string x.s, .string x.i, .int .i64 x.q, .int .i64 x.p]] w fun e w' => e = .returned (.int .i64 r) ∧ Below w.heap.size w w' := by
  by_cases h1 : x.n < 1
  · obtain rfl : r = 1 := by rw [hr.out]; unfold chk; rw [if_pos h1]
    go_enter Tryd.func35, Tryd.ntmps35
    go_wp2
    go_ret
    exact ⟨rfl, (Below.refl _ _).alloc (Nat.le_refl _) _⟩
  obtain ⟨m1, e1⟩ : ∃ z, z = Id.memE (Id.sb x.b) := ⟨_, rfl⟩
  obtain ⟨m2, e2⟩ : ∃ z, z = Id.memE (Id.sb x.s) := ⟨_, rfl⟩
  obtain ⟨m3, e3⟩ : ∃ z, z = Id.isinN (Id.sb x.i) := ⟨_, rfl⟩
  have c1 : ∀ W, Calls Tryd.prog 36 #[.string x.b] W fun e w' => e = .returned (.int .i64 m1) ∧ W = w' := fun W => by rw [e1]; exact Id.refMember_any W x.b hx.1
  have c2 : ∀ W, Calls Tryd.prog 36 #[.string x.s] W fun e w' => e = .returned (.int .i64 m2) ∧ W = w' := fun W => by rw [e2]; exact Id.refMember_any W x.s hx.2.1
  have c3 : ∀ W, Calls Tryd.prog 37 #[.string x.i] W fun e w' => e = .returned (.int .i64 m3) ∧ Below W.heap.size W w' := fun W => by rw [e3]; exact Id.refIsin_any W x.i hx.2.2
  have HR : Hid (r = if orL [m1, m2, m3] ≠ 0 then orL [m1, m2, m3] else if x.b = x.s then 6 else if badN x.q x.p = true then 2 else 0) := by
    show _ = _
    rw [hr.out]; unfold chk nameE; rw [if_neg h1, ← e1, ← e2, ← e3]
  have d1 : m1 = 0 ∨ m1 = 3 := by rw [e1]; exact memE_two _
  have d2 : m2 = 0 ∨ m2 = 3 := by rw [e2]; exact memE_two _
  have C1 := Lib.hid c1
  have C2 := Lib.hid c2
  have C3 := Lib.hid c3
  clear c1 c2 c3 e1 e2 e3 hr hx
  have B0 := Lib.hid ((Below.refl w.heap.size w).alloc (Nat.le_refl _) (.cells #[.int .i64 x.n, .string x.b, .string x.s, .string x.i, .int .i64 x.q, .int .i64 x.p] 23))
  obtain ⟨W0, hW0⟩ : ∃ W0, W0 = w.alloc (.cells #[.int .i64 x.n, .string x.b, .string x.s, .string x.i, .int .i64 x.q, .int .i64 x.p] 23) := ⟨_, rfl⟩
  have E0 := block_new w (.cells #[.int .i64 x.n, .string x.b, .string x.s, .string x.i, .int .i64 x.q, .int .i64 x.p] 23)
  rw [← hW0] at E0 B0
  obtain ⟨x0, x1, x2, x3, x4, x5⟩ := blk6 E0
  have S0 : Hid (W0.cell? ⟨w.heap.size, 1, none⟩ = some (.string x.b) ∧ W0.cell? ⟨w.heap.size, 2, none⟩ = some (.string x.s) ∧ W0.cell? ⟨w.heap.size, 3, none⟩ = some (.string x.i) ∧ W0.cell? ⟨w.heap.size, 4, none⟩ = some (.int .i64 x.q) ∧ W0.cell? ⟨w.heap.size, 5, none⟩ = some (.int .i64 x.p)) := ⟨x1, x2, x3, x4, x5⟩
  have HW0 := Lib.hid hW0
  clear E0 hW0
  go_enter Tryd.func35, Tryd.ntmps35
  go_upto_region 1 with fail
  rw [← HW0.out]
  clear HW0
  rcases d1 with rfl | rfl
  · rcases d2 with rfl | rfl
    · by_cases h3 : m3 = 0
      · subst h3
        have HR' : Hid (r = if x.b = x.s then 6 else if badN x.q x.p = true then 2 else 0) := HR
        clear HR
        by_cases hs : x.b = x.s
        · obtain rfl : r = 6 := by rw [HR'.out, if_pos hs]
          have hq : (x.b.toList == x.s.toList) = true := by rw [beqS]; exact decide_eq_true hs
          clear hs HR'
          go_wp2_with (first
            | (go_at_call 36; (with_reducible refine (C1.out _).mono ?_); rintro e w1 ⟨rfl, rfl⟩)
            | (go_at_call 36; (with_reducible refine (C2.out _).mono ?_); rintro e w2 ⟨rfl, rfl⟩)
            | (go_at_call 37; (with_reducible refine (C3.out _).mono ?_); rintro e w3 ⟨rfl, hb⟩; obtain ⟨y1, y2, y3, y4, y5⟩ := cell5 hb S0.out; have HB3 := Lib.hid (B0.out.trans (hb.mono B0.out.size)); clear hb))
          go_ret
          exact ⟨rfl, HB3.out⟩
        · have hq : (x.b.toList == x.s.toList) = false := by rw [beqS]; exact decide_eq_false hs
          have HR2 : Hid (r = if badN x.q x.p = true then 2 else 0) := by show _ = _; rw [HR'.out, if_neg hs]
          clear hs HR'
          go_upto_region 5 with (first
            | (go_at_call 36; (with_reducible refine (C1.out _).mono ?_); rintro e w1 ⟨rfl, rfl⟩)
            | (go_at_call 36; (with_reducible refine (C2.out _).mono ?_); rintro e w2 ⟨rfl, rfl⟩))
          go_upto_region 7 with (go_at_call 37; (with_reducible refine (C3.out _).mono ?_); rintro e w3 ⟨rfl, hb⟩; obtain ⟨y1, y2, y3, y4, y5⟩ := cell5 hb S0.out; have HB3 := Lib.hid (B0.out.trans (hb.mono B0.out.size)); clear hb)
          cases hbad : badN x.q x.p
          · obtain rfl : r = 0 := by rw [HR2.out, hbad]; rfl
            obtain ⟨b1, b2, b3, b4⟩ := bad_no hbad
            have b2' : ¬ x.q > 2147483647 := by omega
            have b4' : ¬ x.p > 2147483647 := by omega
            clear hbad HR2 b2 b4
            go_wp2
            go_ret
            exact ⟨rfl, HB3.out⟩
          · obtain rfl : r = 2 := by rw [HR2.out, hbad]; rfl
            have hc := bad_yes hbad
            clear hbad HR2
            rcases hc with b1 | ⟨b1, b2⟩ | ⟨b1, b2, b3⟩ | ⟨b1, b2, b3, b4⟩
            · go_wp2
              go_ret
              exact ⟨rfl, HB3.out⟩
            · have b2' : x.q > 2147483647 := by omega
              clear b2
              go_wp2
              go_ret
              exact ⟨rfl, HB3.out⟩
            · have b2' : ¬ x.q > 2147483647 := by omega
              clear b2
              go_wp2
              go_ret
              exact ⟨rfl, HB3.out⟩
            · have b2' : ¬ x.q > 2147483647 := by omega
              have b4' : x.p > 2147483647 := by omega
              clear b2 b4
              go_wp2
              go_ret
              exact ⟨rfl, HB3.out⟩
      · obtain rfl : r = m3 := by rw [HR.out]; simp [orL, h3]
        go_wp2_with (first
          | (go_at_call 36; (with_reducible refine (C1.out _).mono ?_); rintro e w1 ⟨rfl, rfl⟩)
          | (go_at_call 36; (with_reducible refine (C2.out _).mono ?_); rintro e w2 ⟨rfl, rfl⟩)
          | (go_at_call 37; (with_reducible refine (C3.out w3).mono ?_); rintro e w4 ⟨rfl, hb⟩; have HB4 := Lib.hid (HB3.out.trans (hb.mono HB3.out.size)); clear hb)
          | (go_at_call 37; (with_reducible refine (C3.out W0).mono ?_); rintro e w3 ⟨rfl, hb⟩; obtain ⟨y1, y2, y3, y4, y5⟩ := cell5 hb S0.out; have HB3 := Lib.hid (B0.out.trans (hb.mono B0.out.size)); clear hb))
        go_ret
        exact ⟨rfl, HB4.out⟩
    · obtain rfl : r = 3 := by rw [HR.out]; simp [orL]
      go_wp2_with (first
        | (go_at_call 36; (with_reducible refine (C1.out _).mono ?_); rintro e w1 ⟨rfl, rfl⟩)
        | (go_at_call 36; (with_reducible refine (C2.out _).mono ?_); rintro e w2 ⟨rfl, rfl⟩))
      go_ret
      exact ⟨rfl, B0.out⟩
  · obtain rfl : r = 3 := by rw [HR.out]; simp [orL]
    go_wp2_with (go_at_call 36; (with_reducible refine (C1.out _).mono ?_); rintro e w1 ⟨rfl, rfl⟩)
    go_ret
    exact ⟨rfl, B0.out⟩
end Go.Proofs.YteahloddjekakaaDoor.Td
